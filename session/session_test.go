package session_test

import (
	"fmt"
	"math"
	"reflect"
	"slices"
	"testing"

	"eyewitness/api"
	"eyewitness/hull"
	"eyewitness/intern"
	"eyewitness/mat"
	"eyewitness/session"
)

type history = [][]api.Op

// shaped are the facts of a history of sessions of these lengths; what the
// operations are doesn't count, so there are some of all kinds.
func shaped(t *testing.T, lengths ...int) api.Facts {
	t.Helper()
	var h history
	n := 0
	for _, l := range lengths {
		var s []api.Op
		for range l {
			s = append(s, api.Op{Write: n%3 == 0, Var: string(rune('a' + n%5)), Val: n%7 - 3})
			n++
		}
		h = append(h, s)
	}
	f, err := intern.Of(h)
	if err != api.OK {
		t.Fatalf("Of of sessions of the lengths %.40v = %d", lengths, err)
	}
	return f
}

// brief is what f begins with.
func brief(f api.Facts) string {
	return fmt.Sprintf("{%d items %v, %d From %v}", len(f.Items), f.Items[:min(8, len(f.Items))], len(f.From), f.From[:min(8, len(f.From))])
}

// po holds the matrix of f against pairs.
func po(t *testing.T, f api.Facts, want ...[2]int) {
	t.Helper()
	m := session.Po(f)
	if m.N != len(f.Items) || !mat.Right(m) {
		t.Fatalf("Po of %s isn't a matrix of as many rows: %d, %d rows", brief(f), m.N, len(m.Rows))
	}
	if got := mat.Pairs(m); !slices.Equal(got, want) {
		t.Fatalf("Po of %s has %d pairs %v, want %d %v", brief(f), len(got), got[:min(8, len(got))], len(want), want[:min(8, len(want))])
	}
}

func ahead(t *testing.T, f api.Facts, i, j int, want bool) {
	t.Helper()
	if got := session.Ahead(f, i, j); got != want {
		t.Fatalf("Ahead of %s, %d, %d = %t, want %t", brief(f), i, j, got, want)
	}
}

func past(t *testing.T, f api.Facts, o int, want ...int) {
	t.Helper()
	if got := session.Past(f, o); !slices.Equal(got, want) {
		t.Fatalf("Past of %s, %d = %.20v, want %.20v", brief(f), o, got, want)
	}
}

// none are numbers that no item of f has.
func none(f api.Facts) []int {
	n := len(f.Items)
	return []int{math.MinInt, math.MinInt + 1, -1 << 32, -n - 1, -64, -3, -2, -1, n, n + 1, n + 63, n + 64, 1 << 32, math.MaxInt}
}

// held holds all that is asked of f against the words: each item against all
// others.
func held(t *testing.T, f api.Facts) {
	t.Helper()
	var pairs [][2]int
	for i, a := range f.Items {
		var before []int
		for j, b := range f.Items {
			one := a.Session == b.Session
			if ahead(t, f, i, j, one && a.Place < b.Place); one && a.Place < b.Place {
				pairs = append(pairs, [2]int{i, j})
			}
			if one && b.Place <= a.Place {
				before = append(before, j)
			}
		}
		past(t, f, i, before...)
	}
	po(t, f, pairs...)
	for _, o := range none(f) {
		past(t, f, o)
		for i := -1; i <= len(f.Items); i += 1 + i/9 {
			ahead(t, f, o, i, false)
			ahead(t, f, i, o, false)
		}
		ahead(t, f, o, o, false)
		ahead(t, f, o, o+1, false)
	}
}

// shapes calls each for all lists of up to so many lengths, each up to most.
func shapes(sessions, most int, each func([]int)) {
	var more func(l []int)
	more = func(l []int) {
		each(l)
		for n := range most + 1 {
			if len(l) < sessions {
				more(append(slices.Clone(l), n))
			}
		}
	}
	more(nil)
}

func TestExample(t *testing.T) {
	f := shaped(t, 2)
	po(t, f, [2]int{0, 1})
	ahead(t, f, 0, 1, true)
	ahead(t, f, 1, 0, false)
	past(t, f, 0, 0)
	past(t, f, 1, 0, 1)
}

// P12.1: answers that are written out.
func TestWrittenOut(t *testing.T) {
	po(t, shaped(t))
	po(t, shaped(t, 0, 0))
	po(t, shaped(t, 1))
	po(t, shaped(t, 1, 1, 1))
	f := shaped(t, 0, 3, 0, 1, 2, 0)
	po(t, f, [2]int{0, 1}, [2]int{0, 2}, [2]int{1, 2}, [2]int{4, 5})
	for i, want := range [][]int{{0}, {0, 1}, {0, 1, 2}, {3}, {4}, {4, 5}} {
		past(t, f, i, want...)
	}
	past(t, f, 6)
	past(t, f, -1)
	for i := range 6 {
		for j := range 6 {
			ahead(t, f, i, j, j <= 2 && i < j || i == 4 && j == 5)
		}
	}
}

// P12.1: all histories of up to 5 sessions of up to 3 operations.
func TestSmall(t *testing.T) {
	count := 0
	shapes(5, 3, func(l []int) {
		held(t, shaped(t, l...))
		count++
	})
	if want := 1 + 4 + 16 + 64 + 256 + 1024; count != want {
		t.Errorf("%d shapes, want %d", count, want)
	}
}

// P12.1: sessions that end and begin around the ends of words.
func TestWords(t *testing.T) {
	for _, a := range []int{1, 2, 31, 62, 63, 64, 65, 66, 127, 128, 129} {
		for _, b := range []int{0, 1, 63, 64, 65} {
			held(t, shaped(t, a))
			held(t, shaped(t, a, b, 1))
			held(t, shaped(t, b, a))
		}
	}
}

// P12.1: the most operations, in one session, in few and in many.
func TestMost(t *testing.T) {
	for _, l := range []int{api.MaxOps, 1, 2, 1000, 64, api.MaxOps - 1} {
		lengths := slices.Repeat([]int{l}, api.MaxOps/l)
		if over := api.MaxOps % l; over > 0 {
			lengths = append(lengths, 0, over)
		}
		f := shaped(t, lengths...)
		m := session.Po(f)
		if !mat.Right(m) || m.N != api.MaxOps {
			t.Fatalf("Po of sessions of the length %d isn't a matrix: %d", l, m.N)
		}
		if at, ok := hull.Loop(m); ok || at != 0 || !hull.Closed(m) {
			t.Fatalf("Po of sessions of the length %d goes round, or isn't closed", l)
		}
		for i := range m.N {
			// Beyond the session's end there is no pair, and within it all are.
			end := min(i/l*l+l, m.N)
			for _, j := range []int{i - 1, i, i + 1, end - 1, end, end + 1, 0, m.N - 1, m.N / 2} {
				want := i < j && j < end
				if ahead(t, f, i, j, want); mat.Has(m, i, j) != want {
					t.Fatalf("Po of sessions of the length %d has %d, %d: %t", l, i, j, !want)
				}
			}
		}
		for _, o := range []int{0, 1, 63, 64, 1000, 2048, m.N - 2, m.N - 1} {
			var want []int
			for i := o / l * l; i <= o; i++ {
				want = append(want, i)
			}
			past(t, f, o, want...)
		}
		past(t, f, m.N)
	}
	f := shaped(t, api.MaxOps)
	if got, want := len(mat.Pairs(session.Po(f))), api.MaxOps*(api.MaxOps-1)/2; got != want {
		t.Errorf("%d pairs in one session, want %d", got, want)
	}
}

// P12.1: neither what the operations are nor what they read from counts.
func TestOperationsDontCount(t *testing.T) {
	h := history{{{Var: "x"}, {Write: true, Var: "x", Val: 1}, {Write: true, Var: "x", Val: 1}}, {}, {{Var: "y", Val: math.MinInt}, {Var: "x", Val: math.MaxInt}}}
	f, err := intern.Of(h)
	if err != api.OK {
		t.Fatal(err)
	}
	for _, from := range [][]int{nil, {}, {-1, -3, -3, -2, -2}, {4, 3, 2, 1, 0}, {math.MinInt, math.MaxInt}, make([]int, 5000)} {
		f.From = from
		held(t, f)
		po(t, f, [2]int{0, 1}, [2]int{0, 2}, [2]int{1, 2}, [2]int{3, 4})
		held(t, api.Facts{From: from})
	}
}

// P12.2: the matrix is closed, and doesn't go round; each pair is within one
// session, so that a session alone has the same pairs as among others.
func TestSessionsKnowNothingOfOneAnother(t *testing.T) {
	shapes(4, 4, func(l []int) {
		f := shaped(t, l...)
		m := session.Po(f)
		if _, ok := hull.Loop(m); ok || !hull.Closed(m) {
			t.Fatalf("Po of %s goes round, or isn't closed", brief(f))
		}
		var pairs [][2]int
		from := 0
		for _, n := range l {
			for _, p := range mat.Pairs(session.Po(shaped(t, n))) {
				pairs = append(pairs, [2]int{from + p[0], from + p[1]})
			}
			from += n
		}
		po(t, f, pairs...)
	})
}

// Nothing that is handed in is changed, its spare room neither; what stands in
// the room isn't part of it, and nothing is kept from call to call.
func TestNothingIsChangedOrKept(t *testing.T) {
	room := shaped(t, 2, 3, 1)
	room.From = []int{5, 4, 3, 2, 1, 0}
	kept := api.Facts{Vars: slices.Clone(room.Vars), Items: slices.Clone(room.Items), From: slices.Clone(room.From)}
	part := api.Facts{Vars: room.Vars[:2], Items: room.Items[:4], From: room.From[:2]}
	for range 3 {
		po(t, part, [2]int{0, 1}, [2]int{2, 3})
		ahead(t, part, 3, 4, false)
		past(t, part, 3, 2, 3)
		past(t, part, 4)
		po(t, room, [2]int{0, 1}, [2]int{2, 3}, [2]int{2, 4}, [2]int{3, 4})
		ahead(t, room, 3, 4, true)
		past(t, room, 4, 2, 3, 4)
	}
	if !reflect.DeepEqual(room, kept) {
		t.Errorf("what was handed in was changed: %s", brief(room))
	}
}

// An answer is its own, and no two of its rows share words.
func TestAnswersAreTheirOwn(t *testing.T) {
	f := shaped(t, 3, 2)
	m, n := session.Po(f), session.Po(f)
	for i, r := range m.Rows {
		before := slices.Clone(m.Rows)
		for k := range before {
			before[k] = slices.Clone(before[k])
		}
		r[0] = ^uint64(i)
		for k := range before {
			if k != i && !slices.Equal(before[k], m.Rows[k]) {
				t.Errorf("rows %d and %d share words", i, k)
			}
		}
	}
	l := session.Past(f, 2)
	session.Past(f, 2)[0] = 9
	if !mat.Same(n, session.Po(f)) || !slices.Equal(l, []int{0, 1, 2}) {
		t.Errorf("answers have become %v, %v", mat.Pairs(n), l)
	}
}
