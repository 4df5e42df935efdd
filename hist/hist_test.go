package hist_test

import (
	"math"
	"reflect"
	"strconv"
	"strings"
	"testing"

	"eyewitness/api"
	"eyewitness/hist"
)

type history = [][]api.Op

// op is an operation that no other n has the like of.
func op(n int) api.Op {
	return api.Op{Write: n%2 == 0, Var: string([]byte{byte('a' + n%26)}), Val: n}
}

// shaped is a history with sessions of these lengths; the operation with the
// number n is op(n).
func shaped(lengths ...int) history {
	h := make(history, 0, len(lengths))
	n := 0
	for _, l := range lengths {
		session := make([]api.Op, 0, l)
		for range l {
			session = append(session, op(n))
			n++
		}
		h = append(h, session)
	}
	return h
}

// spots are where the operations of such a history stand, by their numbers.
func spots(lengths ...int) []api.Spot {
	var l []api.Spot
	for s, n := range lengths {
		for p := range n {
			l = append(l, api.Spot{Session: s, Place: p})
		}
	}
	return l
}

// even is n lengths, each of them l.
func even(n, l int) []int {
	lengths := make([]int, n)
	for i := range lengths {
		lengths[i] = l
	}
	return lengths
}

// shapes are the lengths of sessions that histories are made of: all those of
// up to 5 sessions of up to 3 operations, and greater ones.
func shapes() [][]int {
	l := [][]int{{}}
	for from := 0; len(l[from]) < 5; from++ {
		for n := range 4 {
			l = append(l, append(append([]int{}, l[from]...), n))
		}
	}
	return append(l, []int{63, 1, 64, 0, 65}, []int{1000}, even(300, 0), even(70, 1), append(even(40, 0), 9), append([]int{9}, even(40, 0)...), []int{api.MaxOps}, []int{api.MaxOps + 1}, []int{3000, 0, 3000})
}

// copied is the same history in memory of its own.
func copied(h history) history {
	c := make(history, len(h))
	for i, session := range h {
		c[i] = append([]api.Op{}, session...)
	}
	return c
}

// named is a history of one operation, of a variable with this name.
func named(s string) history { return history{{{Write: true, Var: s, Val: 1}}} }

func right(t *testing.T, what string, h history, want bool) {
	t.Helper()
	if got := hist.Right(h); got != want {
		t.Errorf("Right of %s = %v, want %v", what, got, want)
	}
}

// none holds Spot against a number that no operation of h has.
func none(t *testing.T, h history, i int) {
	t.Helper()
	if s, ok := hist.Spot(h, i); s != (api.Spot{}) || ok {
		t.Errorf("Spot(of %d sessions, %d) = %v, %v, want zero, false", len(h), i, s, ok)
	}
}

// nowhere holds Number against a spot where no operation of h stands.
func nowhere(t *testing.T, h history, s api.Spot) {
	t.Helper()
	if n, ok := hist.Number(h, s); n != 0 || ok {
		t.Errorf("Number(of %d sessions, %v) = %d, %v, want 0, false", len(h), s, n, ok)
	}
}

func same(t *testing.T, what string, a, b history, want bool) {
	t.Helper()
	if got := hist.Same(a, b); got != want {
		t.Errorf("Same of %s = %v, want %v", what, got, want)
	}
	if got := hist.Same(b, a); got != want {
		t.Errorf("Same of %s, turned about, = %v, want %v", what, got, want)
	}
}

func TestExamples(t *testing.T) {
	h := shaped(1, 1)
	if s, ok := hist.Spot(h, 1); s != (api.Spot{Session: 1}) || !ok {
		t.Errorf("the number 1 is the spot %v, %v", s, ok)
	}
	if n, ok := hist.Number(h, api.Spot{Session: 1}); n != 1 || !ok {
		t.Errorf("the spot 1, 0 is the number %d, %v", n, ok)
	}
}

// P6.1, Right: how many operations there are, in one session and in many.
func TestRightCounts(t *testing.T) {
	right(t, "no sessions", nil, true)
	right(t, "no sessions, empty", history{}, true)
	for _, c := range []struct {
		lengths []int
		want    bool
	}{
		{[]int{0}, true}, {[]int{1}, true}, {[]int{0, 0, 3, 0}, true}, {even(5000, 0), true},
		{[]int{api.MaxOps - 1}, true}, {[]int{api.MaxOps}, true}, {[]int{api.MaxOps + 1}, false}, {[]int{api.MaxOps + 2}, false},
		{[]int{api.MaxOps, 0}, true}, {[]int{0, api.MaxOps}, true}, {append([]int{api.MaxOps}, even(5000, 0)...), true},
		{[]int{api.MaxOps, 1}, false}, {[]int{1, api.MaxOps}, false}, {[]int{api.MaxOps, 0, 1}, false}, {[]int{api.MaxOps + 1, 0}, false}, {[]int{0, api.MaxOps + 1}, false},
		{[]int{2048, 2048}, true}, {[]int{2048, 2049}, false}, {[]int{api.MaxOps - 1, 1}, true}, {[]int{api.MaxOps - 1, 2}, false},
		{even(api.MaxOps, 1), true}, {even(api.MaxOps+1, 1), false}, {even(64, 64), true}, {append(even(64, 64), 1), false}, {even(3, api.MaxOps), false},
	} {
		if got := hist.Right(shaped(c.lengths...)); got != c.want {
			t.Errorf("Right of %d sessions, the first ones of %v operations, = %v, want %v", len(c.lengths), c.lengths[:min(len(c.lengths), 4)], got, c.want)
		}
	}
	right(t, "sessions that are nil", history{nil, nil}, true)
}

// P6.1, Right: names of all lengths.
func TestRightNameLengths(t *testing.T) {
	for n := range 40 {
		right(t, "a name of n letters", named(strings.Repeat("q", n)), n >= 1 && n <= 8)
	}
	for _, n := range []int{255, 256, 257, 264, 1<<16 + 1, 1 << 20} {
		right(t, "a long name", named(strings.Repeat("a", n)), false)
	}
	for _, s := range []string{"a", "z", "az", "zebra", "variable", "abcdefgh", "zyxwvuts", "zzzzzzzz", "nil", "w", "r"} {
		right(t, "the name "+strconv.Quote(s), named(s), true)
	}
}

// P6.1, Right: each byte, at each place of names of all lengths.
func TestRightNameBytes(t *testing.T) {
	for n := 1; n <= api.MaxName; n++ {
		for at := range n {
			for b := range 256 {
				s := []byte(strings.Repeat("m", n))
				s[at] = byte(b)
				if got, want := hist.Right(named(string(s))), b >= 'a' && b <= 'z'; got != want {
					t.Fatalf("Right of the name %q = %v, want %v", s, got, want)
				}
			}
		}
	}
}

// P6.1, Right: letters of other kinds and scripts, and signs near to letters.
func TestRightStrangeNames(t *testing.T) {
	for _, s := range []string{
		"X", "Ab", "aB", "x1", "1", "x_", "_", "x-y", "x y", " x", "x ", "x\n", "x\x00", "\x00", "`", "{", "x=", "w:x", "\xff", "x\xe1",
		"\u00e9", "e\u0301", "\u00e4b", "\u0430", "\u03b1", "\uff41", "\u017f", "\u212a", "\u0131", "\u00aa", "\U0001d41a", "\ufffd", "\u200bx", "aaaaaaa\u00e9",
	} {
		right(t, "the name "+strconv.Quote(s), named(s), false)
	}
}

// P6.1, Right: one wrong name among operations of all kinds, wherever it is.
func TestRightWrongNameAnywhere(t *testing.T) {
	for _, wrong := range []string{"", "X", "ninelette", "x1"} {
		for _, write := range []bool{false, true} {
			for i, s := range spots(3, 0, 1, 4, 0) {
				h := shaped(3, 0, 1, 4, 0)
				h[s.Session][s.Place] = api.Op{Write: write, Var: wrong, Val: i}
				right(t, "one wrong name", h, false)
			}
			h := shaped(api.MaxOps)
			h[0][api.MaxOps-1] = api.Op{Write: write, Var: wrong}
			right(t, "a wrong name at the end", h, false)
		}
	}
	right(t, "operations that are zero", history{make([]api.Op, 2)}, false)
}

// P6.1, Right: values may be any, and operations be alike.
func TestRightValues(t *testing.T) {
	for _, v := range []int{0, 1, -1, math.MaxInt, math.MinInt, math.MaxInt32 + 1} {
		for _, write := range []bool{false, true} {
			o := api.Op{Write: write, Var: "x", Val: v}
			right(t, "a value", history{{o}}, true)
			right(t, "a value twice", history{{o, o}, {o}}, true)
		}
	}
}

// P6.1, Count and Flat, Spot and Number; P6.2: numbers and spots belong to one
// another.
func TestNumbersAndSpots(t *testing.T) {
	for _, lengths := range shapes() {
		h, at := shaped(lengths...), spots(lengths...)
		if got := hist.Count(h); got != len(at) {
			t.Fatalf("Count of sessions of %v = %d, want %d", lengths, got, len(at))
		}
		flat := hist.Flat(h)
		if len(flat) != len(at) {
			t.Fatalf("Flat of sessions of %v has %d, want %d", lengths, len(flat), len(at))
		}
		for i, want := range at {
			s, ok := hist.Spot(h, i)
			if s != want || !ok {
				t.Fatalf("Spot(sessions of %v, %d) = %v, %v, want %v", lengths, i, s, ok, want)
			}
			if n, ok := hist.Number(h, s); n != i || !ok {
				t.Fatalf("Number(sessions of %v, %v) = %d, %v, want %d", lengths, s, n, ok, i)
			}
			if flat[i] != op(i) || h[s.Session][s.Place] != op(i) {
				t.Fatalf("Flat of sessions of %v has %v as %d, want %v", lengths, flat[i], i, op(i))
			}
		}
	}
}

// P6.1, Spot: numbers ahead of all operations and behind.
func TestSpotNone(t *testing.T) {
	for _, lengths := range shapes() {
		h, n := shaped(lengths...), len(spots(lengths...))
		for _, i := range []int{math.MinInt, math.MinInt + 1, math.MinInt + n, math.MinInt32, -n - 1, -n, -2, -1, n, n + 1, 2*n + 1, 1 << 32, 1<<32 + n, math.MaxInt - n, math.MaxInt - 1, math.MaxInt} {
			if i < 0 || i >= n {
				none(t, h, i)
			}
		}
	}
	none(t, nil, 0)
	none(t, history{nil, {}}, 0)
}

// P6.1, Number: places ahead of a session, at its end and behind, though other
// sessions have them, and sessions that there aren't.
func TestNumberNowhere(t *testing.T) {
	far := []int{math.MinInt, math.MinInt + 1, math.MinInt32, -3, -2, -1, 1 << 32, math.MaxInt - 1, math.MaxInt}
	for _, lengths := range shapes() {
		h := shaped(lengths...)
		for s, n := range lengths {
			for _, p := range append(far, -n-1, -n, n, n+1, n+2, math.MaxInt-n) {
				if p < 0 || p >= n {
					nowhere(t, h, api.Spot{Session: s, Place: p})
				}
			}
		}
		for _, s := range append(far, len(h), len(h)+1, -len(h)-1) {
			for _, p := range append(far, 0, 1, len(h)) {
				nowhere(t, h, api.Spot{Session: s, Place: p})
			}
		}
	}
	nowhere(t, nil, api.Spot{})
	nowhere(t, history{nil}, api.Spot{})
}

// P6.2: of all spots near a history just those have a number that are some
// operation's, and no two have the same.
func TestSpotsThereAndBack(t *testing.T) {
	for _, lengths := range shapes()[:1365] {
		h := shaped(lengths...)
		found := map[int]bool{}
		for s := -2; s < len(h)+2; s++ {
			for p := -2; p < 6; p++ {
				spot := api.Spot{Session: s, Place: p}
				n, ok := hist.Number(h, spot)
				if ok != (s >= 0 && s < len(h) && p >= 0 && p < len(h[s])) {
					t.Fatalf("Number(sessions of %v, %v) is %v", lengths, spot, ok)
				}
				if !ok {
					continue
				}
				if back, is := hist.Spot(h, n); back != spot || !is || found[n] {
					t.Fatalf("Spot(sessions of %v, %d) = %v, %v, want %v", lengths, n, back, is, spot)
				}
				found[n] = true
			}
		}
		if len(found) != hist.Count(h) {
			t.Fatalf("sessions of %v have %d numbers, want %d", lengths, len(found), hist.Count(h))
		}
	}
}

// P6.1, Flat: of a history without operations it holds nothing.
func TestFlatNothing(t *testing.T) {
	for _, h := range []history{nil, {}, {nil}, {{}, nil, {}}} {
		if l := hist.Flat(h); len(l) != 0 {
			t.Errorf("Flat of no operations = %v", l)
		}
		if n := hist.Count(h); n != 0 {
			t.Errorf("Count of no operations = %d", n)
		}
	}
}

// P6.1: all but Right are asked of histories that may not be, too.
func TestHistoriesThatMayNotBe(t *testing.T) {
	o := api.Op{Write: true, Var: "\xff no name\x00", Val: math.MinInt}
	h := history{{o, {}}, {{Var: strings.Repeat("x", 1000)}}}
	flat := hist.Flat(h)
	if hist.Count(h) != 3 || len(flat) != 3 || flat[0] != o || flat[1] != (api.Op{}) || len(flat[2].Var) != 1000 {
		t.Errorf("Flat of what may not be = %v", flat)
	}
	if s, ok := hist.Spot(h, 2); s != (api.Spot{Session: 1}) || !ok {
		t.Errorf("Spot of what may not be = %v, %v", s, ok)
	}
	if n, ok := hist.Number(h, api.Spot{Place: 1}); n != 1 || !ok {
		t.Errorf("Number of what may not be = %d, %v", n, ok)
	}
	same(t, "what may not be", h, copied(h), true)
	other := copied(h)
	other[1][0].Var = strings.Repeat("x", 999) + "y"
	same(t, "long names", h, other, false)
}

// P6.1, Same: histories of all shapes.
func TestSameShapes(t *testing.T) {
	l := shapes()
	for i, lengths := range l {
		a := shaped(lengths...)
		same(t, "one history", a, a, true)
		same(t, "a history and its copy", a, copied(a), true)
		for j := max(0, i-30); j < i; j++ {
			if hist.Same(a, shaped(l[j]...)) {
				t.Fatalf("sessions of %v and of %v are the same", lengths, l[j])
			}
		}
	}
}

// P6.1, Same: one operation that is another one, in each of its parts.
func TestSameOneOperation(t *testing.T) {
	for _, s := range spots(2, 0, 1, 3) {
		for _, change := range []func(o *api.Op){
			func(o *api.Op) { o.Write = !o.Write },
			func(o *api.Op) { o.Val++ },
			func(o *api.Op) { o.Val = -o.Val - 1 },
			func(o *api.Op) { o.Val += 1 << 32 },
			func(o *api.Op) { o.Var += "a" },
			func(o *api.Op) { o.Var = "" },
			func(o *api.Op) { o.Var = strings.ToUpper(o.Var) },
		} {
			a, b := shaped(2, 0, 1, 3), shaped(2, 0, 1, 3)
			change(&b[s.Session][s.Place])
			same(t, "one unlike operation", a, b, false)
			change(&a[s.Session][s.Place])
			same(t, "operations that are alike again", a, b, true)
		}
	}
	same(t, "names byte by byte", named("\u00e9"), named("e\u0301"), false)
	same(t, "bytes that are no letters", named("\xfe"), named("\xff"), false)
	same(t, "names of unlike lengths", named("x"), named("x\x00"), false)
}

// P6.1, Same: sessions count, not only what is in them.
func TestSameSessions(t *testing.T) {
	o, p := op(0), op(1)
	for _, c := range []struct {
		what string
		a, b history
		want bool
	}{
		{"no sessions", nil, nil, true},
		{"no sessions, nil and empty", nil, history{}, true},
		{"no session and one", nil, history{{}}, false},
		{"no session and one that is nil", history{}, history{nil}, false},
		{"sessions, nil and empty", history{nil, {}}, history{{}, nil}, true},
		{"one session and two", history{{}}, history{{}, {}}, false},
		{"an empty session behind", history{{o}}, history{{o}, {}}, false},
		{"an empty session ahead", history{{o}}, history{{}, {o}}, false},
		{"an empty session between", history{{o}, {p}}, history{{o}, {}, {p}}, false},
		{"an empty session elsewhere", history{{o}, {}}, history{{}, {o}}, false},
		{"sessions put together", history{{o, p}}, history{{o}, {p}}, false},
		{"sessions cut elsewhere", history{{o, p}, {o}}, history{{o}, {p, o}}, false},
		{"sessions in another order", history{{o}, {p}}, history{{p}, {o}}, false},
		{"operations in another order", history{{o, p}}, history{{p, o}}, false},
		{"an operation twice", history{{o}}, history{{o, o}}, false},
		{"a session twice", history{{o}}, history{{o}, {o}}, false},
		{"a session that begins the other", history{{o, p, o}}, history{{o, p}}, false},
	} {
		same(t, c.what, c.a, c.b, c.want)
	}
}

// roomy is a history whose lists have spare room behind them, with something
// in it, and all that memory: of the sessions, and of each one's operations.
func roomy() (history, history) {
	all := shaped(5, 4, 3, 2, 2)
	h := append(history{}, all...)[:3]
	h[0], h[1], h[2] = h[0][:2], h[1][:0], h[2][:1]
	return h, all
}

// Nothing that is handed in is changed, its spare room neither; what stands in
// the room isn't part of it.
func TestNothingIsChanged(t *testing.T) {
	h, all := roomy()
	want := history{{op(0), op(1)}, {}, {op(9)}}
	for range 2 {
		hist.Right(h)
		if flat := hist.Flat(h); hist.Count(h) != 3 || !reflect.DeepEqual(flat, []api.Op{op(0), op(1), op(9)}) {
			t.Errorf("Flat of a history with room = %v", flat)
		}
		none(t, h, 3)
		nowhere(t, h, api.Spot{Place: 2})
		nowhere(t, h, api.Spot{Session: 1})
		nowhere(t, h, api.Spot{Session: 3})
		same(t, "a history with room", h, want, true)
	}
	if !reflect.DeepEqual(all, shaped(5, 4, 3, 2, 2)) || !reflect.DeepEqual(h[:5][3:], all[3:]) {
		t.Errorf("what was handed in was changed: %v", all)
	}
}

// What Flat answers is new: who changes it, or puts something behind it,
// changes no history.
func TestFlatIsNew(t *testing.T) {
	for _, lengths := range [][]int{{2}, {2, 0}, {0, 2}, {1, 1}, {3, 0, 2}} {
		h := shaped(lengths...)
		flat := hist.Flat(h)
		for i := range flat {
			flat[i] = api.Op{Var: "changed"}
		}
		_ = append(flat, api.Op{Var: "more"})
		if !reflect.DeepEqual(h, shaped(lengths...)) {
			t.Errorf("sessions of %v were changed by their Flat", lengths)
		}
	}
	h, all := roomy()
	_ = append(hist.Flat(h[:1]), api.Op{Var: "more"})
	if !reflect.DeepEqual(all, shaped(5, 4, 3, 2, 2)) {
		t.Errorf("room was taken by Flat: %v", all)
	}
}

// A history that names one list many times is as long as it says; no call
// takes more steps for it than it must.
func TestManySessionsOfOneList(t *testing.T) {
	session := shaped(1 << 12)[0]
	h := make(history, 1<<17)
	for i := range h {
		h[i] = session
	}
	if n := hist.Count(h); n != 1<<29 {
		t.Errorf("Count = %d, want %d", n, 1<<29)
	}
	right(t, "many sessions", h, false)
	last := api.Spot{Session: len(h) - 1, Place: len(session) - 1}
	if s, ok := hist.Spot(h, 1<<29-1); s != last || !ok {
		t.Errorf("Spot of the last one = %v, %v", s, ok)
	}
	if n, ok := hist.Number(h, last); n != 1<<29-1 || !ok {
		t.Errorf("Number of the last one = %d, %v", n, ok)
	}
	none(t, h, 1<<29)
	nowhere(t, h, api.Spot{Session: last.Session, Place: last.Place + 1})
}
