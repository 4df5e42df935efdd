package read_test

import (
	"math"
	"math/big"
	"regexp"
	"strconv"
	"strings"
	"testing"

	"eyewitness/api"
	"eyewitness/hist"
	"eyewitness/read"
)

type history = [][]api.Op

// wr is a write, and rd a read.
func wr(name string, val int) api.Op { return api.Op{Write: true, Var: name, Val: val} }
func rd(name string, val int) api.Op { return api.Op{Var: name, Val: val} }

func taken(t *testing.T, s string, want history) {
	t.Helper()
	h, at, err := read.Text(s)
	if err != api.OK || at != 0 {
		t.Fatalf("Text(%s) is refused at %d: %d", cut(s), at, err)
	}
	if !hist.Same(h, want) {
		t.Fatalf("Text(%s) = %v, want %v", cut(s), h, want)
	}
}

func refused(t *testing.T, s string, where int, want api.Errno) {
	t.Helper()
	if h, at, err := read.Text(s); len(h) != 0 || at != where || err != want {
		t.Fatalf("Text(%s) = %d sessions, %d, %d, want none, %d, %d", cut(s), len(h), at, err, where, want)
	}
}

// cut is s, quoted; of a long one its ends.
func cut(s string) string {
	if len(s) > 400 {
		return strconv.Quote(s[:20]) + " .. " + strconv.Quote(s[len(s)-60:])
	}
	return strconv.Quote(s)
}

// The rules of a text, put another way than by a cursor. By these a beginning
// of a text is one that can be read on from, if numbers aren't looked at: whole
// lines, then operations, then one that isn't whole.
const (
	wholeOp  = `[wr]:[a-z]{1,8}=-?[0-9]+`
	partOp   = `[wr](?::(?:[a-z]{1,8}=?)?)?`
	wholeOps = wholeOp + `(?: ` + wholeOp + `)*`
)

var (
	readable = longest(`^(?:(?:` + wholeOps + `)?\n)*(?:` + wholeOps + `(?: (?:` + partOp + `)?)?|` + partOp + `)?`)
	begun    = regexp.MustCompile(`(?:^|[ \n])[wr]`)
	numbers  = regexp.MustCompile(`=-?[0-9]*`)
	number   = regexp.MustCompile(`^(?:0|-?[1-9][0-9]*)$`)
)

func longest(s string) *regexp.Regexp {
	re := regexp.MustCompile(s)
	re.Longest()
	return re
}

// value is what the document says of the signs of a number.
func value(s string) (int, api.Errno) {
	if !number.MatchString(s) {
		return 0, api.ErrSyntax
	}
	n, _ := new(big.Int).SetString(s, 10)
	if !n.IsInt64() {
		return 0, api.ErrLarge
	}
	return int(n.Int64()), api.OK
}

// fault is where s can't be read on by these rules, and why: of all that is
// wrong what stands furthest to the left.
func fault(s string) (int, api.Errno) {
	beginning := readable.FindString(s)
	at, err := len(s), api.OK
	if beginning != s || s != "" && s[len(s)-1] != '\n' {
		at, err = len(beginning), api.ErrSyntax
	}
	for _, span := range numbers.FindAllStringIndex(s, -1) {
		if span[0] >= len(beginning) {
			break
		}
		if _, wrong := value(s[span[0]+1 : span[1]]); wrong != api.OK {
			at, err = span[0]+1, wrong
			break
		}
	}
	if l := begun.FindAllStringIndex(beginning, api.MaxOps+1); len(l) > api.MaxOps && l[api.MaxOps][1]-1 < at {
		at, err = l[api.MaxOps][1]-1, api.ErrLarge
	}
	if err == api.OK {
		at = 0
	}
	return at, err
}

// sessions are what a text that is a history's says.
func sessions(s string) history {
	h := history{}
	for line := range strings.Lines(s) {
		session := []api.Op{}
		for _, word := range strings.Fields(line) {
			name, val, _ := strings.Cut(word[2:], "=")
			n, _ := value(val)
			session = append(session, api.Op{Write: word[0] == 'w', Var: name, Val: n})
		}
		h = append(h, session)
	}
	return h
}

// judge holds what is read of s against the rules.
func judge(t *testing.T, s string) {
	t.Helper()
	if at, err := fault(s); err != api.OK {
		refused(t, s, at, err)
	} else {
		taken(t, s, sessions(s))
	}
}

// many is n operations without a line feed behind them.
func many(n int) string {
	l := make([]string, n)
	for i := range l {
		l[i] = "w:x=" + strconv.Itoa(i)
	}
	return strings.Join(l, " ")
}

// samples are texts of histories.
var samples = []string{
	"", "\n", "\n\n", "r:y=0\n", "w:x=1 r:y=0\n", "w:x=1\nr:x=1\n", "\nw:x=1\n\n", "w:abcdefgh=-12 r:z=345 w:w=-1\n", "r:r=9223372036854775807\n\nw:eightlet=-9223372036854775808 r:w=10\n",
}

func TestExamples(t *testing.T) {
	taken(t, "w:x=1 r:y=0\n", history{{wr("x", 1), rd("y", 0)}})
	refused(t, "w:x=1", 5, api.ErrSyntax)
}

// P7.1: histories of all shapes.
func TestHistories(t *testing.T) {
	for s, want := range map[string]history{
		"":                                nil,
		"\n":                              {{}},
		"\n\n\n":                          {{}, {}, {}},
		"w:x=1\n":                         {{wr("x", 1)}},
		"r:x=1\n":                         {{rd("x", 1)}},
		"r:x=0\n\n":                       {{rd("x", 0)}, {}},
		"\nr:x=0\n":                       {{}, {rd("x", 0)}},
		"w:x=1\nr:x=1\n":                  {{wr("x", 1)}, {rd("x", 1)}},
		"w:x=1 r:x=1\n":                   {{wr("x", 1), rd("x", 1)}},
		"w:w=1 r:r=1 w:r=1 r:w=1\n":       {{wr("w", 1), rd("r", 1), wr("r", 1), rd("w", 1)}},
		"w:x=1 w:x=1\nw:x=1\n":            {{wr("x", 1), wr("x", 1)}, {wr("x", 1)}},
		"w:x=0 r:x=-1\n":                  {{wr("x", 0), rd("x", -1)}},
		"r:a=1\nr:b=2 r:c=3\n\nw:zzz=4\n": {{rd("a", 1)}, {rd("b", 2), rd("c", 3)}, {}, {wr("zzz", 4)}},
	} {
		taken(t, s, want)
	}
	for _, s := range samples {
		judge(t, s)
	}
}

// P7.1: where each part of an operation and of a line is wrong.
func TestWhereItIsWrong(t *testing.T) {
	for s, at := range map[string]int{
		" ": 0, " \n": 0, "x": 0, "\x00": 0, "\r\n": 0, "W:x=1\n": 0, "R:x=1\n": 0, ":x=1\n": 0, "=1\n": 0, "1\n": 0, "-\n": 0, " w:x=1\n": 0, "\tw:x=1\n": 0, "\xef\xbb\xbfw:x=1\n": 0, "é\n": 0,
		"w": 1, "w\n": 1, "ww:x=1\n": 1, "wr:x=1\n": 1, "w :x=1\n": 1, "w=x=1\n": 1, "write:x=1\n": 1, "rw:x=1\n": 1,
		"w:": 2, "w:\n": 2, "w::x=1\n": 2, "w:=1\n": 2, "w: x=1\n": 2, "w:X=1\n": 2, "w:1=1\n": 2, "w:_=1\n": 2, "w:é=1\n": 2, "w:`=1\n": 2, "w:{=1\n": 2,
		"w:x": 3, "w:x\n": 3, "w:x:1\n": 3, "w:x =1\n": 3, "w:xY=1\n": 3, "w:x1=1\n": 3, "w:x\x00=1\n": 3, "w:xé=1\n": 3, "w:x w:y=1\n": 3, "w:x-1\n": 3,
		"w:x=": 4, "w:x=\n": 4, "w:x==1\n": 4, "w:x= 1\n": 4, "w:x=+1\n": 4, "w:x=y\n": 4, "w:x=-": 4, "w:x=-\n": 4, "w:x=--1\n": 4, "w:x=-x\n": 4, "w:x=- 1\n": 4, "w:x=٣\n": 4, "w:x= r:y=1\n": 4,
		"w:x=1": 5, "w:x=1,\n": 5, "w:x=1x\n": 5, "w:x=1-\n": 5, "w:x=1-2\n": 5, "w:x=1.0\n": 5, "w:x=1e3\n": 5, "w:x=1=1\n": 5, "w:x=1\r\n": 5, "w:x=1\tr:x=1\n": 5, "w:x=1w:y=1\n": 5, "w:x=1\x00": 5, "w:x=1é\n": 5, "w:x=1\u00a0r:y=1\n": 5, "w:x=0x1\n": 5, "w:x=0-\n": 5,
		"w:x=1 ": 6, "w:x=1 \n": 6, "w:x=1  r:x=1\n": 6, "w:x=1 1\n": 6, "w:x=1 x:y=1\n": 6, "w:x=1 :y=1\n": 6, "w:x=1 \nr:y=1\n": 6, "w:x=1\n ": 6, "w:x=1\n \n": 6, "w:x=1\nx": 6, "w:x=1\n\x00": 6, "w:x=1\n\r\n": 6,
		"w:x=1\nw": 7, "w:x=1\n\nx": 7, "w:x=1 r\n": 7, "w:x=1 r:y=": 10, "w:x=1 r:y=1": 11, "\n\nr:y=1": 7, "\n\n\n ": 3,
	} {
		refused(t, s, at, api.ErrSyntax)
		judge(t, s)
	}
}

// P7.1: the place is the first one that is wrong, whatever is wrong behind it.
func TestTheFirstFault(t *testing.T) {
	great := strings.Repeat("9", 30)
	for _, c := range []struct {
		s   string
		at  int
		err api.Errno
	}{
		{"w:x=" + great + " w:=1\n", 4, api.ErrLarge},
		{"w:x=" + great + "x\n", 4, api.ErrLarge},
		{"w:x=" + great, 4, api.ErrLarge},
		{"w:x=01 w:y=" + great + "\n", 4, api.ErrSyntax},
		{"w:=1 w:y=" + great + "\n", 2, api.ErrSyntax},
		{"w:x=1x w:y=" + great + "\n", 5, api.ErrSyntax},
		{"w:ninelette=" + great + "\n", 10, api.ErrSyntax},
		{"w:x=1 w:y=-" + great + " x\n", 10, api.ErrLarge},
		{"w:x=1\nr:y=2\n\nw:x=-0 " + many(api.MaxOps) + "\n", 17, api.ErrSyntax},
	} {
		refused(t, c.s, c.at, c.err)
		judge(t, c.s)
	}
}

// P7.1: names of all lengths, and the ninth letter.
func TestNameLengths(t *testing.T) {
	for n := 1; n <= api.MaxName; n++ {
		name := strings.Repeat("a", n-1) + "z"
		taken(t, "w:"+name+"=7 r:"+name+"=8\n", history{{wr(name, 7), rd(name, 8)}})
		refused(t, "w:"+name, 2+n, api.ErrSyntax)
		refused(t, "w:"+name+"\n", 2+n, api.ErrSyntax)
	}
	for _, n := range []int{9, 10, 16, 255, 256, 257, 264, 1 << 20} {
		name := strings.Repeat("q", n)
		for _, s := range []string{"w:" + name + "=1\n", "r:" + name, "r:" + name + "\n"} {
			refused(t, s, 10, api.ErrSyntax)
			refused(t, "w:x=1 "+s, 16, api.ErrSyntax)
		}
	}
}

// P7.1: each byte at each place of names of all lengths.
func TestNameBytes(t *testing.T) {
	for n := 1; n <= api.MaxName; n++ {
		for at := range n {
			for b := range 256 {
				name := []byte(strings.Repeat("m", n))
				name[at] = byte(b)
				s := "r:" + string(name) + "=1\n"
				if b >= 'a' && b <= 'z' {
					taken(t, s, history{{rd(string(name), 1)}})
				} else if b == '=' && at > 0 {
					refused(t, s, 3+at, api.ErrSyntax)
				} else {
					refused(t, s, 2+at, api.ErrSyntax)
				}
			}
		}
	}
}

// P7.1: numbers that are some, with what may stand behind them.
func TestNumbers(t *testing.T) {
	for _, n := range []int{0, 1, -1, 9, 10, -10, 99, 100, 1234567890, math.MaxInt32 + 1, math.MaxInt64, math.MaxInt64 - 1, math.MinInt64, math.MinInt64 + 1, 1e18, -1e18} {
		digits := strconv.Itoa(n)
		taken(t, "w:x="+digits+"\n", history{{wr("x", n)}})
		taken(t, "r:x="+digits+" r:y="+digits+"\n\n", history{{rd("x", n), rd("y", n)}, {}})
		refused(t, "w:x="+digits, 4+len(digits), api.ErrSyntax)
		for b := range 256 {
			if b != ' ' && b != '\n' && (b < '0' || b > '9') {
				refused(t, "w:x="+digits+string([]byte{byte(b)})+"\n", 4+len(digits), api.ErrSyntax)
			}
		}
	}
}

// P7.1: signs that look like a number and are none are told at their
// beginning, whatever stands behind them.
func TestNoNumbers(t *testing.T) {
	for s, want := range map[string]api.Errno{
		"-": api.ErrSyntax, "-0": api.ErrSyntax, "00": api.ErrSyntax, "01": api.ErrSyntax, "-01": api.ErrSyntax, "007": api.ErrSyntax, "-00": api.ErrSyntax,
		"09223372036854775808": api.ErrSyntax, "-0" + strings.Repeat("9", 40): api.ErrSyntax, strings.Repeat("0", 1<<20): api.ErrSyntax,
		"9223372036854775808": api.ErrLarge, "-9223372036854775809": api.ErrLarge, "18446744073709551616": api.ErrLarge, "18446744073709551617": api.ErrLarge, "-18446744073709551615": api.ErrLarge, "99999999999999999999": api.ErrLarge, "1" + strings.Repeat("0", 1<<20): api.ErrLarge,
	} {
		for _, behind := range []string{"", "\n", " ", " r:x=1\n", "x\n", "-\n", "--1\n", ".5\n", "=\n", "\x00\xff", "\n\n"} {
			refused(t, "w:x="+s+behind, 4, want)
			refused(t, "w:x=1\n\nw:y=2 r:abcdefgh="+s+behind, 24, want)
		}
	}
}

// P7.1: how many operations there may be, in one session and in many.
func TestMostOperations(t *testing.T) {
	full := many(api.MaxOps)
	one := "w:x=1\n"
	for _, s := range []string{many(api.MaxOps-1) + "\n", full + "\n", full + "\n\n\n", "\n\n" + full + "\n", strings.Repeat(one, api.MaxOps), strings.Repeat("\n"+one, api.MaxOps), many(2048) + "\n" + many(2048) + "\n", strings.Repeat("\n", 5000) + one} {
		judge(t, s)
		taken(t, s, sessions(s))
	}
	for _, c := range []struct{ within, more string }{
		{full + " ", "w:x=1\n"}, {full + " ", "r:x=1\n"}, {full + "\n", "w:x=1\n"}, {full + "\n\n\n", "r:x=1\n"}, {"\n" + full + "\n", "w:x=1\n"},
		{strings.Repeat(one, api.MaxOps), "w:x=1\n"}, {many(2048) + "\n" + many(2048) + "\n", "r:y=0\n"}, {many(2048) + "\n" + many(2048) + " ", "r:y=0\n"}, {full + " ", full + "\n"},
		{full + " ", "w"}, {full + "\n", "r"}, {full + " ", "w\n"}, {full + " ", "wx"}, {full + " ", "w:=1\n"}, {full + " ", "r:x=01\n"}, {full + "\n", "r:x=99999999999999999999\n"}, {full + "\n", "w\x00"}, {full + "\n", "write"},
	} {
		refused(t, c.within+c.more, len(c.within), api.ErrLarge)
		judge(t, c.within+c.more)
	}
}

// P7.1: behind the most operations what begins none is no sign too many but a
// wrong one; and what is wrong ahead of the 4097th comes first.
func TestFaultsNearTheMost(t *testing.T) {
	full := many(api.MaxOps)
	for _, c := range []struct{ within, more string }{
		{full, ""}, {full, "w:x=1\n"}, {full, "x"}, {full + " ", ""}, {full + " ", "\n"}, {full + " ", " w:x=1\n"}, {full + " ", "x"}, {full + " ", "x:y=1\n"}, {full + " ", "W:x=1\n"}, {full + " ", ":x=1\n"}, {full + " ", "\x00"},
		{full + "\n", " w:x=1\n"}, {full + "\n", "x\n"}, {full + "\n\n", "1"}, {full + "\n\n", "\xff"},
		{many(api.MaxOps-1) + " w:x", "\n"}, {many(api.MaxOps-1) + " w:", "=1 w:x=1\n"}, {many(api.MaxOps-1) + " w:x=", "01 w:x=1\n"}, {many(api.MaxOps-1) + " w:x=1", ", w:x=1\n"},
	} {
		refused(t, c.within+c.more, len(c.within), api.ErrSyntax)
		judge(t, c.within+c.more)
	}
	last := many(api.MaxOps-1) + " w:x="
	refused(t, last+"9223372036854775808 w:x=1\n", len(last), api.ErrLarge)
}

// P7.1: each byte in the place of each byte of a text, ahead of it, and behind
// the text; each byte left out; and each beginning of a text.
func TestEachByteEverywhere(t *testing.T) {
	for _, s := range samples {
		for at := 0; at <= len(s); at++ {
			judge(t, s[:at])
			judge(t, s[at:])
			if at < len(s) {
				judge(t, s[:at]+s[at+1:])
				judge(t, s[:at]+s[at:at+1]+s[at:])
			}
			for b := range 256 {
				sign := string([]byte{byte(b)})
				judge(t, s[:at]+sign+s[at:])
				if at < len(s) {
					judge(t, s[:at]+sign+s[at+1:])
				}
			}
		}
	}
}

// P7.1: all short texts of the signs that texts have, and one that none has;
// also behind something, so that operations get whole.
func TestShortTexts(t *testing.T) {
	signs := "wr:x=01- \n\x00"
	l, from := []string{""}, 0
	for range 4 {
		end := len(l)
		for _, s := range l[from:end] {
			for i := range len(signs) {
				l = append(l, s+signs[i:i+1])
			}
		}
		from = end
	}
	for _, s := range l {
		for _, ahead := range []string{"", "w:x", "w:x=", "r:x=1", "w:xxxxxx", "r:x=922337203685477580"} {
			judge(t, ahead+s)
		}
	}
}

// P7.1: texts without a pattern, put together of parts that go on well for a
// while.
func TestTextsWithoutAPattern(t *testing.T) {
	parts := []string{
		"w:x=1", "r:y=0", "w:abcdefgh=-5", "r:z=-9223372036854775808", "w:q=9223372036854775807", " ", " ", " ", " ", "\n", "\n", "\n", "w:x=1 ", "r:y=2 ", "w:x=1\n", "r:y=3\n",
		"w", "r", ":", "x", "=", "0", "7", "-", "w:ninelette=1", "r:x=00", "w:x=9223372036854775808", "\x00", "\xff", "é", "\t", "\r\n",
	}
	x := uint64(0x9e3779b97f4a7c15)
	next := func(n int) int {
		x ^= x << 13
		x ^= x >> 7
		x ^= x << 17
		return int(x % uint64(n))
	}
	for range 20000 {
		var b strings.Builder
		well := []int{16, 16, 24, len(parts)}[next(4)]
		for range next(14) {
			b.WriteString(parts[next(well)])
		}
		judge(t, b.String())
	}
}

// P7.2: a history that is read may be.
func TestWhatIsReadMayBe(t *testing.T) {
	for _, s := range append(samples, many(api.MaxOps)+"\n", strings.Repeat("w:a=1\n", api.MaxOps), strings.Repeat("\n", 10000), "w:abcdefgh=0 r:zyxwvuts=0\n") {
		h, _, err := read.Text(s)
		if err != api.OK || !hist.Right(h) || len(h) != strings.Count(s, "\n") {
			t.Errorf("Text(%s) = %d sessions, %d; may it be? %v", cut(s), len(h), err, hist.Right(h))
		}
	}
}

// P7.2: two texts put together are the sessions of both; and if the second one
// is none, it is wrong where it is, behind the first one.
func TestTextsPutTogether(t *testing.T) {
	wrong := []string{"w", "x:x=1\n", "w:x=1", "w:x=01\n", "\n\nr:x=99999999999999999999\n", " ", "w:x=1 \n", "w:ninelette=1\n", "\n\x00"}
	for _, a := range samples {
		for _, b := range samples {
			taken(t, a+b, append(sessions(a), sessions(b)...))
		}
		for _, b := range wrong {
			_, at, err := read.Text(b)
			refused(t, a+b, len(a)+at, err)
		}
	}
	half := many(2048) + "\n"
	taken(t, half+half, append(sessions(half), sessions(half)...))
	refused(t, half+half+half, 2*len(half), api.ErrLarge)
	refused(t, half+many(2049)+"\n", len(half)+len(half), api.ErrLarge)
}

// What is answered is new: who changes a session, or puts operations behind
// it, changes no other one and no other answer; and nothing is kept from a call
// that was refused.
func TestAnswersAreTheirOwn(t *testing.T) {
	s := "w:x=1 r:y=2 w:z=3\n\nr:x=1\nw:x=4 w:x=5\n"
	want := sessions(s)
	first, _, _ := read.Text(s)
	for i := range first {
		other, _, _ := read.Text(s)
		_ = append(other[i], wr("more", 1), wr("more", 2), wr("more", 3), wr("more", 4))
		if !hist.Same(other, want) {
			t.Errorf("what was put behind session %d is in another one: %v", i, other)
		}
		for j := range first[i] {
			first[i][j] = wr("changed", 0)
		}
	}
	taken(t, s, want)
	refused(t, many(api.MaxOps+1), len(many(api.MaxOps))+1, api.ErrLarge)
	taken(t, many(api.MaxOps)+"\n", sessions(many(api.MaxOps)+"\n"))
	taken(t, s, want)
}

// A long text is read to its end, in steps that grow as it does.
func TestLongTexts(t *testing.T) {
	lines := strings.Repeat("\n", 1<<22)
	if h, at, err := read.Text(lines); len(h) != 1<<22 || at != 0 || err != api.OK {
		t.Errorf("many lines: %d sessions, %d, %d", len(h), at, err)
	}
	refused(t, lines+"r:x=1", 1<<22+5, api.ErrSyntax)
	refused(t, lines+"x"+lines, 1<<22, api.ErrSyntax)
	refused(t, strings.Repeat(" ", 1<<24), 0, api.ErrSyntax)
	refused(t, "w:"+strings.Repeat("a", 1<<24), 10, api.ErrSyntax)
	refused(t, "w:x=-"+strings.Repeat("1", 1<<24)+"\n", 4, api.ErrLarge)
	taken(t, many(api.MaxOps)+lines, append(sessions(many(api.MaxOps)+"\n"), make(history, 1<<22-1)...))
}
