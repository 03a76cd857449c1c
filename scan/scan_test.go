package scan_test

import (
	"math"
	"math/rand/v2"
	"regexp"
	"strings"
	"testing"

	"polyglot/scan"
)

type call func(string, int) int

// calls is each call of a place, with the form of what it passes over.
var calls = map[string]struct {
	call call
	form *regexp.Regexp
}{
	"Spaces": {scan.Spaces, regexp.MustCompile(`\A *`)},
	"Blank":  {scan.Blank, regexp.MustCompile(`\A[ \n]*`)},
	"Name":   {scan.Name, regexp.MustCompile(`\A([a-zA-Z][a-zA-Z0-9_-]*)?`)},
	"Number": {scan.Number, regexp.MustCompile(`\A(-?[0-9]+(\.[0-9]+)?)?`)},
	"Line":   {scan.Line, regexp.MustCompile(`\A[^\n]*`)},
}

var (
	isBig  = regexp.MustCompile(`\A[A-Z0-9_-]+\z`)
	isName = regexp.MustCompile(`\A[a-zA-Z][a-zA-Z0-9_-]*\z`)
)

func checkText(t *testing.T, s string) {
	t.Helper()
	for name, c := range calls {
		for i := range len(s) {
			want := i + c.form.FindStringIndex(s[i:])[1]
			if got := c.call(s, i); got != want {
				t.Fatalf("%s(%q, %d) = %d, want %d", name, s, i, got, want)
			}
		}
		for _, i := range [...]int{math.MinInt, -len(s) - 1, -2, -1, len(s), len(s) + 1, 2*len(s) + 1, math.MaxInt} {
			if got := c.call(s, i); got != i {
				t.Fatalf("%s(%q, %d) = %d", name, s, i, got)
			}
		}
	}
	if got, want := scan.Big(s), isBig.MatchString(s); got != want {
		t.Fatalf("Big(%q) is %v", s, got)
	}
	if got, want := scan.IsName(s), isName.MatchString(s); got != want {
		t.Fatalf("IsName(%q) is %v", s, got)
	}
}

func TestP6_1Examples(t *testing.T) {
	for _, x := range []struct {
		name string
		call call
		s    string
		i    int
		want int
	}{
		{"Spaces", scan.Spaces, "a  b", 1, 3},
		{"Spaces", scan.Spaces, "a  b", 2, 3},
		{"Spaces", scan.Spaces, "a  b", 0, 0},
		{"Spaces", scan.Spaces, "   ", 0, 3},
		{"Spaces", scan.Spaces, "  \n ", 0, 2},
		{"Spaces", scan.Spaces, "\t ", 0, 0},
		{"Spaces", scan.Spaces, " \t", 0, 1},
		{"Spaces", scan.Spaces, " \u00a0", 0, 1},
		{"Spaces", scan.Spaces, "\u2003", 0, 0},
		{"Blank", scan.Blank, " \n x", 0, 3},
		{"Blank", scan.Blank, "\n\n", 0, 2},
		{"Blank", scan.Blank, "x\n ", 0, 0},
		{"Blank", scan.Blank, "x\n ", 1, 3},
		{"Blank", scan.Blank, " \r\n", 0, 1},
		{"Blank", scan.Blank, "\n\t", 0, 1},
		{"Blank", scan.Blank, "\u0085\u2028", 0, 0},
		{"Name", scan.Name, "a-b_1!", 0, 5},
		{"Name", scan.Name, "a-b_1!", 2, 5},
		{"Name", scan.Name, "a-b_1!", 1, 1},
		{"Name", scan.Name, "a-b_1!", 3, 3},
		{"Name", scan.Name, "a-b_1!", 4, 4},
		{"Name", scan.Name, "zZ", 0, 2},
		{"Name", scan.Name, "A--__00", 0, 7},
		{"Name", scan.Name, "a.b", 0, 1},
		{"Name", scan.Name, "a b", 0, 1},
		{"Name", scan.Name, " a", 0, 0},
		{"Name", scan.Name, "aé", 0, 1},
		{"Name", scan.Name, "éa", 0, 0},
		{"Name", scan.Name, "éa", 1, 1},
		{"Name", scan.Name, "éa", 2, 3},
		{"Name", scan.Name, "\u212Aelvin", 0, 0},
		{"Number", scan.Number, "-1.5.", 0, 4},
		{"Number", scan.Number, "-1.5.", 1, 4},
		{"Number", scan.Number, "-1.5.", 2, 2},
		{"Number", scan.Number, "-1.5.", 3, 4},
		{"Number", scan.Number, "007", 0, 3},
		{"Number", scan.Number, "12.34.56", 0, 5},
		{"Number", scan.Number, "1.x", 0, 1},
		{"Number", scan.Number, "1.", 0, 1},
		{"Number", scan.Number, "1..2", 0, 1},
		{"Number", scan.Number, "1.-2", 0, 1},
		{"Number", scan.Number, "1-2", 0, 1},
		{"Number", scan.Number, "-", 0, 0},
		{"Number", scan.Number, "--1", 0, 0},
		{"Number", scan.Number, "--1", 1, 3},
		{"Number", scan.Number, "- 1", 0, 0},
		{"Number", scan.Number, "-.5", 0, 0},
		{"Number", scan.Number, "-x", 0, 0},
		{"Number", scan.Number, ".5", 0, 0},
		{"Number", scan.Number, "+1", 0, 0},
		{"Number", scan.Number, "1,5", 0, 1},
		{"Number", scan.Number, "1e5", 0, 1},
		{"Number", scan.Number, "\u0661", 0, 0},
		{"Line", scan.Line, "ab\nc", 0, 2},
		{"Line", scan.Line, "ab\nc", 1, 2},
		{"Line", scan.Line, "ab\nc", 2, 2},
		{"Line", scan.Line, "ab\nc", 3, 4},
		{"Line", scan.Line, "\n\n", 1, 1},
		{"Line", scan.Line, "a\rb\u2028", 0, 6},
	} {
		if got := x.call(x.s, x.i); got != x.want {
			t.Errorf("%s(%q, %d) = %d, want %d", x.name, x.s, x.i, got, x.want)
		}
	}
}

func TestP6_1NoPlace(t *testing.T) {
	for name, c := range calls {
		for _, s := range []string{"", "a", " ", "\n", "1", "-1", "  \n a-1\n"} {
			for _, i := range []int{math.MinInt, -99, -1, len(s), len(s) + 1, 99, math.MaxInt} {
				if got := c.call(s, i); got != i {
					t.Errorf("%s(%q, %d) = %d", name, s, i, got)
				}
			}
		}
	}
}

func TestP6_2Big(t *testing.T) {
	for s, want := range map[string]bool{
		"A": true, "Z": true, "NUMBER": true, "A-1_": true, "1": true, "-": true, "_": true, "0123456789-_AZ": true,
		"": false, "a": false, "Ab": false, "aB": false, "A b": false, " A": false, "A ": false, "A.": false, "A\n": false, "É": false, "A\x00": false, "A\xff": false,
	} {
		if scan.Big(s) != want {
			t.Errorf("Big(%q) is %v", s, !want)
		}
	}
}

func TestP6_2IsName(t *testing.T) {
	for s, want := range map[string]bool{
		"a": true, "Z": true, "a1": true, "a-b_1": true, "A-": true, "z_": true,
		"": false, "1a": false, "-a": false, "_a": false, "a ": false, " a": false, "a.b": false, "a\n": false, "aé": false, "é": false, "a!": false, "-": false,
	} {
		if scan.IsName(s) != want {
			t.Errorf("IsName(%q) is %v", s, !want)
		}
	}
}

func TestP6_1P6_2EveryByte(t *testing.T) {
	for c := range 256 {
		for _, s := range []string{"?", "a?", "A?", "?A", "1?", "-?", "1?2", "-1.?", "-1.2?", " ?", "\n?", "\n ?\n", "-?2.5", "ab-?_c"} {
			checkText(t, strings.ReplaceAll(s, "?", string([]byte{byte(c)})))
		}
	}
}

func TestP6_1P6_2AnyText(t *testing.T) {
	const signs = "azAZ09_-. \n\r\t!{é\xff"
	random := rand.New(rand.NewPCG(6, 1))
	for range 100_000 {
		s := make([]byte, random.IntN(12))
		some := 1 + random.IntN(len(signs))
		for k := range s {
			s[k] = signs[random.IntN(some)]
		}
		checkText(t, string(s))
	}
}

func TestP6_1P6_2LongText(t *testing.T) {
	const size = 1 << 20
	for _, sign := range []string{" ", "\n", "a", "A", "1", "-", "."} {
		checkEnds(t, strings.Repeat(sign, size))
	}
	checkEnds(t, "-"+strings.Repeat("1", size)+"."+strings.Repeat("2", size))
}

// checkEnds holds the calls against their forms at a text's beginning alone.
func checkEnds(t *testing.T, s string) {
	t.Helper()
	for name, c := range calls {
		if got, want := c.call(s, 0), c.form.FindStringIndex(s)[1]; got != want {
			t.Errorf("%s of %d bytes is %d, want %d", name, len(s), got, want)
		}
	}
	if scan.Big(s) != isBig.MatchString(s) || scan.IsName(s) != isName.MatchString(s) {
		t.Errorf("Big or IsName of %d bytes", len(s))
	}
}
