package show_test

import (
	"fmt"
	"math"
	"reflect"
	"strconv"
	"strings"
	"testing"

	"eyewitness/api"
	"eyewitness/hist"
	"eyewitness/read"
	"eyewitness/show"
)

type history = [][]api.Op

// wr is a write, and rd a read.
func wr(name string, val int) api.Op { return api.Op{Write: true, Var: name, Val: val} }
func rd(name string, val int) api.Op { return api.Op{Var: name, Val: val} }

// said is an operation's text by the words alone.
func said(o api.Op) string {
	if o.Write {
		return fmt.Sprintf("w:%s=%d", o.Var, o.Val)
	}
	return fmt.Sprintf("r:%s=%d", o.Var, o.Val)
}

// lines is a history's text by the words alone.
func lines(h history) string {
	l := make([]string, len(h))
	for i, ops := range h {
		words := make([]string, len(ops))
		for j, o := range ops {
			words[j] = said(o)
		}
		l[i] = strings.Join(words, " ") + "\n"
	}
	return strings.Join(l, "")
}

// cut is s, quoted; of a long one its ends.
func cut(s string) string {
	if len(s) > 400 {
		return strconv.Quote(s[:60]) + " .. " + strconv.Quote(s[len(s)-60:])
	}
	return strconv.Quote(s)
}

func shown(t *testing.T, h history, want string) {
	t.Helper()
	if s, err := show.Text(h); s != want || err != api.OK {
		t.Fatalf("Text of %d sessions = %s, %d, want %s, %d", len(h), cut(s), err, cut(want), api.OK)
	}
}

func refused(t *testing.T, what string, h history) {
	t.Helper()
	if s, err := show.Text(h); s != "" || err != api.ErrArg {
		t.Errorf("Text of %s = %s, %d, want none, %d", what, cut(s), err, api.ErrArg)
	}
}

func op(t *testing.T, o api.Op, want string) {
	t.Helper()
	if s := show.Op(o); s != want {
		t.Fatalf("Op = %s, want %s", cut(s), cut(want))
	}
}

// values are small numbers, those around each power of ten and of two, and the
// ends of all kinds of integers; each above 0 and below.
func values() []int {
	var l []int
	for _, base := range []int{2, 10} {
		for p := 1; ; p *= base {
			l = append(l, p-1, p, p+1)
			if p > math.MaxInt/base {
				break
			}
		}
	}
	for n := range 200 {
		l = append(l, n, math.MaxInt-n)
	}
	for _, n := range l {
		l = append(l, -n)
	}
	return append(l, math.MinInt, math.MinInt+1)
}

// nth is an operation that no other n has the like of.
func nth(n int) api.Op {
	name := strings.Repeat(string(rune('a'+n%26)), 1+n%8)
	return api.Op{Write: n%3 == 0, Var: name, Val: n * (1 - n%2*2)}
}

// shaped is a history with sessions of these lengths.
func shaped(lengths ...int) history {
	h := make(history, 0, len(lengths))
	n := 0
	for _, l := range lengths {
		session := make([]api.Op, l)
		for i := range session {
			session[i] = nth(n)
			n++
		}
		h = append(h, session)
	}
	return h
}

// even is n lengths, each of them l.
func even(n, l int) []int {
	lengths := make([]int, n)
	for i := range lengths {
		lengths[i] = l
	}
	return lengths
}

// shapes are the lengths of sessions of histories that may be: all those of up
// to 5 sessions of up to 3 operations, and greater ones.
func shapes() [][]int {
	l := [][]int{{}}
	for from := 0; len(l[from]) < 5; from++ {
		for n := range 4 {
			l = append(l, append(append([]int{}, l[from]...), n))
		}
	}
	return append(l, []int{63, 1, 64, 0, 65}, even(300, 0), even(70, 1), append(even(40, 0), 9), append([]int{9}, even(40, 0)...),
		[]int{api.MaxOps - 1}, []int{api.MaxOps}, []int{0, api.MaxOps, 0}, []int{2048, 2048}, []int{1, api.MaxOps - 1}, []int{api.MaxOps - 1, 0, 1}, even(api.MaxOps, 1), even(64, 64), append(even(5000, 0), api.MaxOps))
}

// samples are histories with something to be seen in each.
func samples() []history {
	return []history{
		nil, {}, {nil}, {{}}, {{}, nil, {}}, {{wr("x", 1)}}, {{rd("x", 1)}}, {{wr("x", 1), rd("y", 0)}}, {{wr("x", 1)}, {rd("y", 0)}},
		{{wr("w", 1), rd("r", -1)}, {}, {rd("w", 10), wr("r", -10)}}, {{wr("abcdefgh", math.MaxInt), rd("zyxwvuts", math.MinInt)}},
		{{wr("x", 0), wr("x", 0)}, {wr("x", 0)}}, {{}, {rd("x", -7)}, {}},
	}
}

func TestExamples(t *testing.T) {
	shown(t, history{{wr("x", 1), rd("y", 0)}}, "w:x=1 r:y=0\n")
}

// P8.1, Text: histories of a few operations.
func TestText(t *testing.T) {
	for want, h := range map[string]history{
		"\n":                              {{}},
		"\n\n\n":                          {{}, nil, {}},
		"w:x=1\n":                         {{wr("x", 1)}},
		"r:x=1\n":                         {{rd("x", 1)}},
		"r:x=0\n\n":                       {{rd("x", 0)}, {}},
		"\nr:x=0\n":                       {{}, {rd("x", 0)}},
		"w:x=1\nr:x=1\n":                  {{wr("x", 1)}, {rd("x", 1)}},
		"w:x=1 r:x=1\n":                   {{wr("x", 1), rd("x", 1)}},
		"w:w=1 r:r=1 w:r=1 r:w=1\n":       {{wr("w", 1), rd("r", 1), wr("r", 1), rd("w", 1)}},
		"w:x=1 w:x=1\nw:x=1\n":            {{wr("x", 1), wr("x", 1)}, {wr("x", 1)}},
		"w:x=0 r:x=-1\n":                  {{wr("x", 0), rd("x", -1)}},
		"r:a=1\nr:b=2 r:c=3\n\nw:zzz=4\n": {{rd("a", 1)}, {rd("b", 2), rd("c", 3)}, {}, {wr("zzz", 4)}},
		"r:r=9223372036854775807\n\nw:eightlet=-9223372036854775808 r:w=10\n": {{rd("r", math.MaxInt64)}, {}, {wr("eightlet", math.MinInt64), rd("w", 10)}},
	} {
		shown(t, h, want)
	}
	shown(t, nil, "")
	shown(t, history{}, "")
}

// P8.1, Text: sessions of all shapes, up to the most operations.
func TestTextShapes(t *testing.T) {
	for _, lengths := range shapes() {
		h := shaped(lengths...)
		shown(t, h, lines(h))
	}
	for _, h := range samples() {
		shown(t, h, lines(h))
	}
}

// P8.1, Text: values may be any, and operations alike.
func TestTextValues(t *testing.T) {
	for _, n := range values() {
		h := history{{wr("x", n), rd("x", n), wr("x", n)}, {rd("y", n)}}
		digits := strconv.Itoa(n)
		shown(t, h, "w:x="+digits+" r:x="+digits+" w:x="+digits+"\nr:y="+digits+"\n")
	}
}

// P8.1, Text: one operation too many, in one session and in many.
func TestTextTooMany(t *testing.T) {
	for _, lengths := range [][]int{
		{api.MaxOps + 1}, {api.MaxOps + 2}, {api.MaxOps, 1}, {1, api.MaxOps}, {api.MaxOps, 0, 1}, {0, api.MaxOps + 1, 0}, {2048, 2049}, {api.MaxOps - 1, 2}, {3000, 0, 3000},
		even(api.MaxOps+1, 1), append(even(64, 64), 1), even(3, api.MaxOps), append(even(5000, 0), api.MaxOps+1),
	} {
		refused(t, fmt.Sprintf("%d sessions", len(lengths)), shaped(lengths...))
	}
	session := shaped(api.MaxOps)[0]
	h := make(history, 1<<17)
	for i := range h {
		h[i] = session
	}
	refused(t, "many sessions of one list", h)
}

// P8.1, Text: names of all lengths.
func TestTextNameLengths(t *testing.T) {
	for n := range 40 {
		name := strings.Repeat("q", n)
		h := history{{wr(name, 1)}, {rd(name, 2)}}
		if n >= 1 && n <= api.MaxName {
			shown(t, h, "w:"+name+"=1\nr:"+name+"=2\n")
		} else {
			refused(t, "a name of n letters", h)
		}
	}
	for _, n := range []int{255, 256, 257, 264, 1<<16 + 1, 1 << 20} {
		refused(t, "a long name", history{{rd(strings.Repeat("a", n), 1)}})
	}
}

// P8.1, Text: each byte at each place of names of all lengths.
func TestTextNameBytes(t *testing.T) {
	for n := 1; n <= api.MaxName; n++ {
		for at := range n {
			for b := range 256 {
				s := []byte(strings.Repeat("m", n))
				s[at] = byte(b)
				h := history{{rd(string(s), -1)}}
				if b >= 'a' && b <= 'z' {
					shown(t, h, "r:"+string(s)+"=-1\n")
				} else {
					refused(t, strconv.Quote(string(s)), h)
				}
			}
		}
	}
}

// P8.1, Text: one wrong name, wherever it is.
func TestTextWrongNameAnywhere(t *testing.T) {
	for _, wrong := range []string{"", "X", "ninelette", "x1", "x ", "\n", "x=1", "w:x", "é", "\xff", "\x00"} {
		for _, write := range []bool{false, true} {
			for i := range 8 {
				h := shaped(3, 0, 1, 4, 0)
				s, _ := hist.Spot(h, i)
				h[s.Session][s.Place] = api.Op{Write: write, Var: wrong, Val: i}
				refused(t, "the name "+strconv.Quote(wrong), h)
			}
			h := shaped(api.MaxOps)
			h[0][api.MaxOps-1] = api.Op{Write: write, Var: wrong}
			refused(t, "the last name "+strconv.Quote(wrong), h)
		}
	}
	refused(t, "operations that are zero", history{make([]api.Op, 2)})
}

// P8.1, Text: sessions without operations aren't limited.
func TestTextManySessions(t *testing.T) {
	shown(t, make(history, 1<<22), strings.Repeat("\n", 1<<22))
	h := append(make(history, 1<<20), []api.Op{wr("x", 1)})
	shown(t, h, strings.Repeat("\n", 1<<20)+"w:x=1\n")
}

// P8.1, Op: operations that may be.
func TestOp(t *testing.T) {
	for want, o := range map[string]api.Op{
		"w:x=1": wr("x", 1), "r:x=1": rd("x", 1), "w:x=0": wr("x", 0), "r:x=0": rd("x", 0), "r:y=-7": rd("y", -7), "w:w=10": wr("w", 10), "r:r=-10": rd("r", -10),
		"w:abcdefgh=9223372036854775807": wr("abcdefgh", math.MaxInt64), "r:ab=-9223372036854775808": rd("ab", math.MinInt64), "w:ab=-9223372036854775808": wr("ab", math.MinInt64),
	} {
		op(t, o, want)
	}
	for _, n := range values() {
		op(t, wr("x", n), "w:x="+strconv.Itoa(n))
		op(t, rd("eightlet", n), "r:eightlet="+strconv.Itoa(n))
	}
	for n := range 1000 {
		op(t, nth(n), said(nth(n)))
	}
}

// P8.1, Op: names that no variable of a history may have, as they are.
func TestOpAnyName(t *testing.T) {
	op(t, api.Op{}, "r:=0")
	op(t, wr("", -1), "w:=-1")
	for _, name := range []string{
		"X", "ninelette", "x1", "1", "-1", " ", "x y", " x ", "\n", "x\n", "\x00", "\t\r", "=", "x=1", ":", "w:x", "w:x=1 r:y=2\n", "%d", "%s%%", "\"", "\\", "{",
		"é", "e\u0301", "ä", "\u2028", "\ufffd", "\ufeff", "\U0001d41a", "\xff", "\xc3", "\xed\xa0\x80", "a\xe1", strings.Repeat("n", 1000), strings.Repeat("\xff\x00", 1<<20),
	} {
		op(t, wr(name, 5), "w:"+name+"=5")
		op(t, rd(name, -5), "r:"+name+"=-5")
	}
	for b := range 256 {
		sign := string([]byte{byte(b)})
		for _, name := range []string{sign, sign + "x", "x" + sign, "x" + sign + "y", sign + sign} {
			op(t, wr(name, b), "w:"+name+"="+strconv.Itoa(b))
			op(t, rd(name, -b), "r:"+name+"="+strconv.Itoa(-b))
		}
	}
}

// back holds a history against what is read of its text.
func back(t *testing.T, h history) {
	t.Helper()
	s, err := show.Text(h)
	if err != api.OK {
		t.Fatalf("Text of %d sessions is refused: %d", len(h), err)
	}
	g, at, err := read.Text(s)
	if at != 0 || err != api.OK || !hist.Same(g, h) {
		t.Fatalf("of %s was read %d sessions, %d, %d", cut(s), len(g), at, err)
	}
}

// P8.2: a history is read of its text as it was.
func TestHistoriesThereAndBack(t *testing.T) {
	for _, lengths := range shapes() {
		back(t, shaped(lengths...))
	}
	for _, h := range samples() {
		back(t, h)
	}
	for _, n := range values() {
		back(t, history{{wr("x", n), rd("abcdefgh", n)}, {rd("z", n)}})
	}
	for _, name := range []string{"a", "z", "az", "nil", "w", "r", "ww", "rr", "wr", "zzzzzzzz"} {
		back(t, history{{wr(name, 1), rd(name, 1)}, {}, {rd(name, 0)}})
	}
}

// P8.2: unlike histories have unlike texts.
func TestUnlikeHistories(t *testing.T) {
	of := map[string]history{}
	put := func(h history) {
		s, _ := show.Text(h)
		if other, there := of[s]; there && !hist.Same(other, h) {
			t.Errorf("%v and %v have the text %s", other, h, cut(s))
		}
		of[s] = h
	}
	ops := []api.Op{wr("x", 1), rd("x", 1), wr("y", 1), wr("x", 11), wr("x", -1), wr("xx", 1)}
	for _, a := range ops {
		put(history{{a}})
		for _, b := range ops {
			for _, c := range ops {
				for _, h := range []history{{{a, b, c}}, {{a}, {b, c}}, {{a, b}, {c}}, {{a}, {b}, {c}}, {{}, {a, b, c}}, {{a, b, c}, {}}, {{a}, {}, {b, c}}} {
					put(h)
				}
			}
		}
	}
	if want := len(ops) + 7*len(ops)*len(ops)*len(ops); len(of) != want {
		t.Errorf("%d histories have %d texts", want, len(of))
	}
}

// again holds a text against that of what is read of it, if it is a history's,
// and tells whether it is.
func again(t *testing.T, s string) bool {
	t.Helper()
	h, _, err := read.Text(s)
	if err != api.OK {
		return false
	}
	shown(t, h, s)
	return true
}

// P8.2: a text that is read is the text of what was read. All short texts of
// the signs that texts have; also behind something, so that operations get
// whole; and each byte at each place of some texts.
func TestTextsThereAndBack(t *testing.T) {
	signs := "wr:x=01- \n"
	l, from := []string{""}, 0
	for range 4 {
		end := len(l)
		for _, s := range l[from:end] {
			for i := range len(signs) {
				l = append(l, s+signs[i:i+1])
			}
		}
		from = end
	}
	for _, h := range samples() {
		s := lines(h)
		for at := 0; at <= len(s); at++ {
			l = append(l, s[:at], s[at:])
			for b := range 256 {
				sign := string([]byte{byte(b)})
				l = append(l, s[:at]+sign+s[at:])
				if at < len(s) {
					l = append(l, s[:at]+sign+s[at+1:])
				}
			}
		}
	}
	n := 0
	for _, s := range l {
		for _, ahead := range []string{"", "w:x", "w:x=", "r:x=1", "w:xxxxxx=1 r:y", "r:x=922337203685477580"} {
			if again(t, ahead+s) {
				n++
			}
		}
	}
	if n < 1000 {
		t.Errorf("only %d of the texts are histories'", n)
	}
	again(t, strings.Repeat("\n", 100)+strings.Repeat("w:x=1 r:y=2\n", 2048)+strings.Repeat("\n", 100))
}

// Nothing that is handed in is changed, its spare room neither; what stands in
// the room isn't part of it.
func TestNothingIsChanged(t *testing.T) {
	all := shaped(5, 4, 3, 2, 2)
	h := append(history{}, all...)[:3]
	h[0], h[1], h[2] = h[0][:2], h[1][:0], h[2][:1]
	for range 2 {
		shown(t, h, said(nth(0))+" "+said(nth(1))+"\n\n"+said(nth(9))+"\n")
	}
	if !reflect.DeepEqual(all, shaped(5, 4, 3, 2, 2)) || !reflect.DeepEqual(h[:5][3:], all[3:]) {
		t.Errorf("what was handed in was changed: %v", all)
	}
	wrong := history{{wr("x", 1)}, {rd("X", 1)}}
	refused(t, "a wrong name", wrong)
	if !reflect.DeepEqual(wrong, history{{wr("x", 1)}, {rd("X", 1)}}) {
		t.Errorf("what was handed in was changed: %v", wrong)
	}
}

// An answer is its own: neither what is asked later nor what becomes of a
// history changes it, and a call that was refused leaves nothing behind.
func TestAnswersAreTheirOwn(t *testing.T) {
	h := shaped(3, 0, 2)
	want := lines(h)
	s, _ := show.Text(h)
	o := show.Op(h[0][0])
	refused(t, "too many operations", shaped(api.MaxOps+1))
	refused(t, "a wrong name behind others", history{{wr("x", 1)}, {rd("y", 2), rd("", 3)}})
	for i := range h {
		for j := range h[i] {
			h[i][j] = wr("changed", 0)
		}
	}
	shown(t, h, "w:changed=0 w:changed=0 w:changed=0\n\nw:changed=0 w:changed=0\n")
	if s != want || o != said(nth(0)) {
		t.Errorf("the text %s has become %s, and %s %s", cut(want), cut(s), said(nth(0)), o)
	}
	shown(t, shaped(3, 0, 2), want)
	shown(t, nil, "")
}
