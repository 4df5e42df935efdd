package num_test

import (
	"math"
	"math/big"
	"strconv"
	"strings"
	"testing"

	"eyewitness/api"
	"eyewitness/num"
)

// samples are numbers of all kinds: small ones, those around each power of
// ten and of two, the ends of all kinds of integers, and such without a
// pattern; each above 0 and below.
func samples() []int {
	var l []int
	for n := range 2100 {
		l = append(l, n)
	}
	for _, base := range []int{2, 10} {
		for p := 1; ; p *= base {
			l = append(l, p-1, p, p+1, 5*(p/5), 9*(p/9))
			if p > math.MaxInt/base {
				break
			}
		}
	}
	for d := range 30 {
		l = append(l, math.MaxInt-d, math.MaxInt32-d, math.MaxUint32-d, math.MaxInt/10*10-d)
	}
	x := uint64(0x9e3779b97f4a7c15)
	for i := range 3000 {
		x ^= x << 13
		x ^= x >> 7
		x ^= x << 17
		l = append(l, int(x>>(i%64)))
	}
	for _, n := range l {
		l = append(l, -n)
	}
	return append(l, math.MinInt, math.MinInt+1, math.MinInt+2, math.MinInt+9, math.MinInt+10)
}

// strange are signs that are no digits, though some come near: the neighbours
// of the digits and of the minus, what stands ahead of numbers or within them
// elsewhere, bytes at the ends, and digits and minuses of other scripts.
var strange = []string{
	"/", ":", ",", ".", "+", "_", " ", "\t", "\n", "\r", "\x00", "\x1f", "\x7f", "\x80", "\xb0", "\xff", "a", "e", "x", "A", "o", "O", "=", "'",
	"\u0663", "\u0969", "\u00b2", "\u00bd", "\uff11", "\u2212", "\u2010", "\u2013", "\u00e9",
}

// count is the number that the digits make, however many there are.
func count(t *testing.T, s string) *big.Int {
	t.Helper()
	n, ok := new(big.Int).SetString(s, 10)
	if !ok {
		t.Fatalf("%q is no number", s)
	}
	return n
}

func refused(t *testing.T, s string, want api.Errno) {
	t.Helper()
	if n, err := num.Get(s); n != 0 || err != want {
		t.Errorf("Get(%q) = %d, %d, want 0, %d", s, n, err, want)
	}
}

func taken(t *testing.T, s string, want int) {
	t.Helper()
	if n, err := num.Get(s); n != want || err != api.OK {
		t.Errorf("Get(%q) = %d, %d, want %d, %d", s, n, err, want, api.OK)
	}
}

func TestExamples(t *testing.T) {
	taken(t, "-9223372036854775808", math.MinInt64)
	refused(t, "9223372036854775808", api.ErrLarge)
}

// P5.1, Put.
func TestPut(t *testing.T) {
	for n, want := range map[int]string{
		0: "0", 1: "1", -1: "-1", 9: "9", 10: "10", -10: "-10", 99: "99", 100: "100", 101: "101", -1000: "-1000",
		math.MaxInt64: "9223372036854775807", math.MinInt64: "-9223372036854775808", math.MinInt64 + 1: "-9223372036854775807",
	} {
		if got := num.Put(n); got != want {
			t.Errorf("Put(%d) = %q, want %q", n, got, want)
		}
	}
	for _, n := range samples() {
		if got, want := num.Put(n), strconv.Itoa(n); got != want {
			t.Fatalf("Put(%d) = %q, want %q", n, got, want)
		}
	}
}

// P5.1, Get: numbers of 64 bits, and 0.
func TestGet(t *testing.T) {
	for s, want := range map[string]int{
		"0": 0, "1": 1, "-1": -1, "9": 9, "-9": -9, "10": 10, "-10": -10, "100": 100, "1234567890": 1234567890,
		"1000000000000000000": 1e18, "-1000000000000000000": -1e18, "9223372036854775799": math.MaxInt64 - 8, "9223372036854775800": math.MaxInt64 - 7,
		"9223372036854775807": math.MaxInt64, "-9223372036854775807": math.MinInt64 + 1, "-9223372036854775808": math.MinInt64,
	} {
		taken(t, s, want)
	}
	for _, n := range samples() {
		taken(t, strconv.Itoa(n), n)
	}
}

// P5.1, Get: not one digit or more behind a minus or none.
func TestGetNoDigits(t *testing.T) {
	for _, s := range []string{"", "-", "--", "--1", "---1", "-1-", "1-", "1-1", "1-2", "0-", "-0-", "+", "+0", "+1", "-+1", "+-1", "0x1", "0b1", "0o7", "1e3", "1.0", "1_000", "NaN", "Inf"} {
		refused(t, s, api.ErrSyntax)
	}
}

// P5.1, Get: any byte but a digit, ahead of digits, within and behind.
func TestGetEachByte(t *testing.T) {
	for b := range 256 {
		sign := string([]byte{byte(b)})
		if sign >= "0" && sign <= "9" {
			taken(t, sign, b-'0')
			taken(t, "1"+sign+"2", 102+10*(b-'0'))
			taken(t, "-1"+sign, -10-b+'0')
			continue
		}
		for _, s := range []string{sign, "1" + sign, "1" + sign + "2", "-" + sign, "-1" + sign, "-" + sign + "1", "0" + sign} {
			refused(t, s, api.ErrSyntax)
		}
		if sign != "-" {
			refused(t, sign+"1", api.ErrSyntax)
			refused(t, sign+"-1", api.ErrSyntax)
		}
	}
}

// P5.1, Get: signs that are no digits, though some come near.
func TestGetStrange(t *testing.T) {
	for _, sign := range strange {
		for _, s := range []string{sign, sign + "1", "-" + sign, "1" + sign, "-1" + sign, "1" + sign + "1", sign + "-1", sign + sign} {
			refused(t, s, api.ErrSyntax)
		}
	}
}

// P5.1, Get: a nought ahead.
func TestGetNoughtAhead(t *testing.T) {
	for _, s := range []string{"00", "000", "-0", "-00", "01", "-01", "007", "-007", "00000000000000000000000", "09223372036854775807", "-09223372036854775808"} {
		refused(t, s, api.ErrSyntax)
	}
	for _, n := range samples() {
		digits := strings.TrimPrefix(strconv.Itoa(n), "-")
		refused(t, "0"+digits, api.ErrSyntax)
		refused(t, "-0"+digits, api.ErrSyntax)
	}
}

// P5.1, Get: numbers near the ends of 64 bits, ten times those, and numbers
// that are small again, when cut to 64 bits.
func TestGetEnds(t *testing.T) {
	least, most := big.NewInt(math.MinInt64), big.NewInt(math.MaxInt64)
	var l []*big.Int
	for _, s := range []string{"9223372036854775808", "18446744073709551616", "92233720368547758080", "184467440737095516160", "27670116110564327424", "340282366920938463463374607431768211456"} {
		for d := int64(-200); d <= 200; d++ {
			n := new(big.Int).Add(count(t, s), big.NewInt(d))
			l = append(l, n, new(big.Int).Neg(n))
		}
	}
	for _, n := range l {
		if n.Cmp(least) >= 0 && n.Cmp(most) <= 0 {
			taken(t, n.String(), int(n.Int64()))
		} else {
			refused(t, n.String(), api.ErrLarge)
		}
	}
}

// P5.1, Get: by each last digit that a number of 19 or 20 digits may have, and
// by more digits than any number of 64 bits has.
func TestGetTooGreat(t *testing.T) {
	for last := range 10 {
		s := "922337203685477580" + strconv.Itoa(last)
		if last <= 7 {
			taken(t, s, math.MaxInt64-7+last)
		} else {
			refused(t, s, api.ErrLarge)
		}
		if last <= 8 {
			taken(t, "-"+s, math.MinInt64+8-last)
		} else {
			refused(t, "-"+s, api.ErrLarge)
		}
		refused(t, "1844674407370955161"+strconv.Itoa(last), api.ErrLarge)
		refused(t, "-1844674407370955161"+strconv.Itoa(last), api.ErrLarge)
	}
	for n := 19; n <= 200; n++ {
		for _, s := range []string{"1" + strings.Repeat("0", n), strings.Repeat("9", n), strings.Repeat("1", n+1)} {
			refused(t, s, api.ErrLarge)
			refused(t, "-"+s, api.ErrLarge)
		}
	}
	refused(t, strings.Repeat("9", 1<<20), api.ErrLarge)
	refused(t, "-1"+strings.Repeat("0", 1<<20), api.ErrLarge)
}

// P5.1, Get: what is no number is told first, be it too great besides.
func TestGetSyntaxAheadOfLarge(t *testing.T) {
	great := "99999999999999999999999999"
	for _, s := range []string{great + "x", great + "-", great + " ", "x" + great, "0" + great, "-0" + great, "--" + great, "+" + great, "-" + great + ".", great + "x" + great, great + "\x00", "9223372036854775808x"} {
		refused(t, s, api.ErrSyntax)
	}
}

// near tells by the words alone how many signs look like a number: the most
// such that all but the first one are digits, and that is one, or a minus.
func near(s string, at int) int {
	n := 0
	for at >= 0 && at+n < len(s) && (strings.Contains("0123456789", s[at+n:at+n+1]) || n == 0 && s[at] == '-') {
		n++
	}
	return n
}

// P5.1, Span.
func TestSpan(t *testing.T) {
	for _, c := range []struct {
		s    string
		at   int
		want int
	}{
		{"x-12y", 0, 0}, {"x-12y", 1, 3}, {"x-12y", 2, 2}, {"x-12y", 3, 1}, {"x-12y", 4, 0}, {"x-12y", 5, 0},
		{"12", 0, 2}, {"12", 1, 1}, {"-", 0, 1}, {"--", 0, 1}, {"--", 1, 1}, {"--1", 0, 1}, {"--1", 1, 2}, {"1-", 0, 1}, {"1-2", 0, 1}, {"1-2", 1, 2},
		{"-1-2", 0, 2}, {"-x", 0, 1}, {"- 1", 0, 1}, {"+1", 0, 0}, {"007", 0, 3}, {"-007x", 0, 4}, {"-0", 0, 2}, {"1.5", 0, 1}, {"1e5", 0, 1}, {"1_0", 0, 1}, {"1\x00", 0, 1},
		{"99999999999999999999999 1", 0, 23}, {"-99999999999999999999999\n", 0, 24}, {"w:x=1 r:y=0\n", 4, 1}, {"w:x=-15\n", 4, 3}, {"w:x=\n", 4, 0},
	} {
		if got := num.Span(c.s, c.at); got != c.want {
			t.Errorf("Span(%q, %d) = %d, want %d", c.s, c.at, got, c.want)
		}
	}
	long := "=" + strings.Repeat("0123456789", 1<<17)
	if got := num.Span(long, 1); got != 10<<17 {
		t.Errorf("Span of %d digits = %d", 10<<17, got)
	}
}

// P5.1, Span: places ahead of a text, at its end and behind.
func TestSpanOutside(t *testing.T) {
	for _, s := range []string{"", "1", "-", "-1", "12", "-12", "x", strings.Repeat("7", 300)} {
		for _, at := range []int{math.MinInt, math.MinInt + 1, math.MinInt32, -len(s) - 1, -len(s), -3, -2, -1, len(s), len(s) + 1, len(s) + 2, 1 << 32, 1<<32 + 1, math.MaxInt - 1, math.MaxInt} {
			if at >= 0 && at < len(s) {
				continue
			}
			if got := num.Span(s, at); got != 0 {
				t.Errorf("Span(%q, %d) = %d, want 0", s, at, got)
			}
		}
	}
}

// texts are all that have up to most of these signs.
func texts(signs string, most int) []string {
	l := []string{""}
	for from := 0; most > 0; most-- {
		end := len(l)
		for _, s := range l[from:end] {
			for _, sign := range []byte(signs) {
				l = append(l, s+string([]byte{sign}))
			}
		}
		from = end
	}
	return l
}

// P5.1, Span: all short texts, at all places.
func TestSpanShortTexts(t *testing.T) {
	for _, s := range texts("-059/:x\xff", 5) {
		for at := -2; at <= len(s)+2; at++ {
			if got, want := num.Span(s, at), near(s, at); got != want {
				t.Fatalf("Span(%q, %d) = %d, want %d", s, at, got, want)
			}
		}
	}
}

// P5.1, Span: each byte behind a number, ahead of one, and alone.
func TestSpanEachByte(t *testing.T) {
	for b := range 256 {
		sign := string([]byte{byte(b)})
		for _, s := range []string{sign, sign + "1", "1" + sign, "-" + sign, "-1" + sign + "1", sign + sign, "-1" + sign + "-"} {
			for at := range len(s) {
				if got, want := num.Span(s, at), near(s, at); got != want {
					t.Fatalf("Span(%q, %d) = %d, want %d", s, at, got, want)
				}
			}
		}
	}
}

// P5.2: a number comes back of its digits, and takes all of them.
func TestNumbersThereAndBack(t *testing.T) {
	for _, n := range samples() {
		s := num.Put(n)
		taken(t, s, n)
		for _, around := range [][2]string{{"", ""}, {"x=", "\n"}, {"", "-"}, {"7 ", " 7"}, {"=", "-5"}} {
			if got := num.Span(around[0]+s+around[1], len(around[0])); got != len(s) {
				t.Fatalf("Span of %q between %q = %d, want %d", s, around, got, len(s))
			}
		}
	}
}

// P5.2: what is a number is the text of that number alone: of all short texts
// just those come back that Put writes.
func TestTextsThereAndBack(t *testing.T) {
	written := map[string]bool{}
	for n := -99999; n <= 99999; n++ {
		written[num.Put(n)] = true
	}
	for _, s := range texts("-0159+x ", 5) {
		n, err := num.Get(s)
		if (err == api.OK) != written[s] {
			t.Fatalf("Get(%q) = %d, %d, but Put writes it = %v", s, n, err, written[s])
		}
		if err == api.OK && num.Put(n) != s {
			t.Fatalf("Get(%q) = %d, but Put(%d) = %q", s, n, n, num.Put(n))
		}
	}
}
