package resolve_test

import (
	"maps"
	"runtime/debug"
	"strconv"
	"strings"
	"testing"

	"polyglot/bundle"
	"polyglot/dec"
	"polyglot/moment"
	"polyglot/number"
	"polyglot/resolve"
	"polyglot/tag"
	"polyglot/value"
)

// codes is the codes' names, in their order.
var codes = []string{"", "NoVar", "NoMessage", "NoTerm", "NoValue", "NoFunc", "BadArg", "Cyclic", "TooMany", "TooLong"}

// faults is what went wrong as a text: a code and a name each, a semicolon between.
func faults(list []resolve.Error) string {
	var out []string
	for _, e := range list {
		if e.Code < 1 || int(e.Code) >= len(codes) {
			out = append(out, "code "+strconv.Itoa(int(e.Code))+" "+e.Name)
		} else {
			out = append(out, codes[e.Code]+" "+e.Name)
		}
	}
	return strings.Join(out, "; ")
}

func parsed(t *testing.T, s string) dec.Dec {
	t.Helper()
	d, ok := dec.Parse(s)
	if !ok {
		t.Fatalf("%q tells no number", s)
	}
	return d
}

// made is a bundle of a language, with no junk among what is added.
func made(t *testing.T, lang, resource string) *bundle.Bundle {
	t.Helper()
	x, ok := tag.Parse(lang)
	if !ok {
		t.Fatalf("%q tells no tag", lang)
	}
	b := bundle.New(x)
	if _, junk := b.Add([]byte(resource), false); junk != 0 {
		t.Fatalf("%d of it is junk: %.300q", junk, resource)
	}
	return b
}

// usual is values of some names.
func usual(t *testing.T) map[string]value.Value {
	t.Helper()
	full := value.At(951_782_400)
	full.Style = moment.Both
	return map[string]value.Value{
		"x":    value.Str("{x}"),
		"one":  value.Num(dec.Int(1)),
		"n":    value.Num(parsed(t, "1234.5")),
		"w":    value.Written("1.0"),
		"t":    value.At(0),
		"full": full,
		"s":    value.Str("1"),
		"e":    value.Str(""),
	}
}

// shorten is what a test says, or the beginning of it, if it is long.
func shorten(s string) string {
	if len(s) > 600 {
		return s[:600] + " and more"
	}
	return s
}

func check(t *testing.T, b *bundle.Bundle, name, attr string, args map[string]value.Value, want, wrong string) {
	t.Helper()
	kept := maps.Clone(args)
	for range 2 { // the second time as the first one
		got, errs, ok := resolve.Format(b, &number.Marks{}, name, attr, args)
		if !ok || got != want || faults(errs) != wrong {
			t.Errorf("%s %s is %q, %q, %v, want %q, %q", name, attr, shorten(got), shorten(faults(errs)), ok, shorten(want), shorten(wrong))
		}
	}
	if !maps.Equal(args, kept) {
		t.Errorf("of %s %s what was handed in came to be %+v", name, attr, args)
	}
}

// checkOf is check of a message a with that pattern, and whatever else there is.
func checkOf(t *testing.T, pattern, others string, args map[string]value.Value, want, wrong string) {
	t.Helper()
	check(t, made(t, "en", "a = "+pattern+"\n"+others), "a", "", args, want, wrong)
}

func checkNone(t *testing.T, b *bundle.Bundle, name, attr string) {
	t.Helper()
	m := &number.Marks{}
	if got, errs, ok := resolve.Format(b, m, name, attr, usual(t)); ok || got != "" || len(errs) != 0 || m.Asked() != 0 {
		t.Errorf("%q %q is %q, %q, %v", name, attr, got, faults(errs), ok)
	}
}

func TestP16_1Codes(t *testing.T) {
	list := []resolve.Code{resolve.NoVar, resolve.NoMessage, resolve.NoTerm, resolve.NoValue, resolve.NoFunc, resolve.BadArg, resolve.Cyclic, resolve.TooMany, resolve.TooLong}
	for i, c := range list {
		if int(c) != i+1 {
			t.Errorf("%s is %d", codes[i+1], c)
		}
	}
}

func TestP16_1Example(t *testing.T) {
	check(t, made(t, "en", "a = { b } { $x }\nb = B { a }"), "a", "", nil, "B {a} {$x}", "Cyclic a; NoVar $x")
}

const someMessages = "a = A\n .k = K1\n .l = L\n .k = K2 { $x }\nb =\n .k = only\n-t = T\n .k = TK\n-a = term\n .z = Z\nc = { \"\" }\n .e = { $e }"

func TestP16_1Which(t *testing.T) {
	b := made(t, "en", someMessages)
	for _, x := range []struct{ name, attr, want string }{
		{"a", "", "A"},
		{"a", "k", "K2 {x}"},
		{"a", "l", "L"},
		{"b", "k", "only"},
		{"c", "", ""},
		{"c", "e", ""},
	} {
		check(t, b, x.name, x.attr, usual(t), x.want, "")
	}
	check(t, b, "a", "k", nil, "K2 {$x}", "NoVar $x")
}

func TestP16_1None(t *testing.T) {
	b := made(t, "en", someMessages)
	for _, name := range []string{"", "A", "t", "-t", "-a", "a.k", "b.k", "a ", " a", "aa", "$x", "{a}", "\xff", "a\x00", strings.Repeat("a", 3000)} {
		for _, attr := range []string{"", "k", "z", ".k"} {
			checkNone(t, b, name, attr)
		}
	}
	checkNone(t, b, "b", "")
	for _, attr := range []string{"z", "K", "kk", ".k", "k ", "e", "\xff", "a"} {
		checkNone(t, b, "a", attr)
		checkNone(t, b, "b", attr)
	}
	checkNone(t, made(t, "en", ""), "a", "")
	checkNone(t, &bundle.Bundle{}, "a", "")
}

// TestP16_1Language is of languages whose tags have more parts, too.
func TestP16_1Language(t *testing.T) {
	const resource = "a = { $n }|{ $full }|{ 22 ->\n [few] few\n *[other] other\n }|{ $t }"
	for lang, want := range map[string]string{
		"en":         "1,234.5|2/29/2000, 12:00 AM|other|1/1/1970",
		"en-US":      "1,234.5|2/29/2000, 12:00 AM|other|1/1/1970",
		"EN":         "1,234.5|2/29/2000, 12:00 AM|other|1/1/1970",
		"de-AT-1996": "1.234,5|29.02.2000 00:00|other|01.01.1970",
		"fr-CA":      "1\u202f234,5|29/02/2000 00:00|other|01/01/1970",
		"pl-Latn-PL": "1\u00a0234,5|29.02.2000 00:00|few|01.01.1970",
		"ja":         "1,234.5|2000-02-29 00:00|other|1970-01-01",
	} {
		check(t, made(t, lang, resource), "a", "", usual(t), want, "")
	}
	b := &bundle.Bundle{} // of no language
	b.Add([]byte(resource), false)
	check(t, b, "a", "", usual(t), "1,234.5|2000-02-29 00:00|other|1970-01-01", "")
}

func TestP16_1InOrder(t *testing.T) {
	const resource = "a = { $x } { none } { $n ->\n [1] { $y }\n *[other] { -z }\n } { F() } { $x }{ b }{ b.k }{ NUMBER(\"\") }{ a }\nb = { $q }{ $n }{ $q2 }"
	args := map[string]value.Value{"n": value.Num(dec.Int(1))}
	check(t, made(t, "en", resource), "a", "", args, "{$x} {none} {$y} {F()} {$x}{$q}1{$q2}{b.k}{NUMBER()}{a}",
		"NoVar $x; NoMessage none; NoVar $y; NoFunc F(); NoVar $x; NoVar $q; NoVar $q2; NoValue b.k; BadArg NUMBER(); Cyclic a")
}

func TestP16_1EachForItself(t *testing.T) {
	b := made(t, "en", "a = { b }{ $x }\nb = { a }{ -t }\n-t = { b }{ -t }\n .k = { $y }\nc = C")
	args := usual(t)
	marks := &number.Marks{}
	first, errs, _ := resolve.Format(b, marks, "a", "", args)
	if first != "{a}{b}{-t}{x}" || faults(errs) != "Cyclic a; Cyclic b; Cyclic -t" {
		t.Errorf("%q, %q", first, faults(errs))
	}
	check(t, b, "c", "", args, "C", "")
	check(t, b, "b", "", args, "{b}{x}{b}{-t}", "Cyclic b; Cyclic b; Cyclic -t")
	resolve.Format(b, marks, "b", "", nil)
	if faults(errs) != "Cyclic a; Cyclic b; Cyclic -t" {
		t.Errorf("what was told came to be %q", faults(errs))
	}
	clear(errs)
	check(t, b, "a", "", args, first, "Cyclic a; Cyclic b; Cyclic -t")
	b.Add([]byte("b = new\na =\n .k = { b }"), true)
	check(t, b, "a", "k", args, "new", "")
	checkNone(t, b, "a", "")
}

// TestP16_1Marks is of what is asked of the marks: once for each number that is written, never for one that is only looked at.
func TestP16_1Marks(t *testing.T) {
	b := made(t, "en", "a = { $n }{ 1 }{ $w }{ NUMBER(NUMBER($n)) }\nb = { $n ->\n [1] x\n *[other] y\n }{ $x }{ $t }{ NUMBER($n, z: 1) }{ none }\nc = { { $n } }{ a }{ DATETIME($t) }\nd = "+strings.Repeat("{ 1 }", 200))
	for _, x := range []struct {
		name string
		want int64
	}{{"a", 4}, {"b", 0}, {"c", 5}, {"d", 100}} {
		m := &number.Marks{}
		resolve.Format(b, m, x.name, "", usual(t))
		if m.Asked() != x.want {
			t.Errorf("%s asked %d times, want %d", x.name, m.Asked(), x.want)
		}
	}
}

func TestP16_2Elems(t *testing.T) {
	for _, x := range []struct{ pattern, want string }{
		{"x", "x"},
		{"{ \"x\" }", "x"},
		{"a { \"b\" } c { \"\" }{ \"d\" }", "a b c d"},
		{"\n  one { \"x\" }\n   two\n\n  three", "one x\n two\n\nthree"},
		{"{ \"  \" } é漢😀 { \"\\u00e9\\U01f600\" }", "   é漢😀 é😀"},
		{"{ $x }{ $x } { \"{\" }?{ \"}\" }", "{x}{x} {?}"},
		{"{ $bytes }|{ $e }|", "\xff\xe2\x82{}\n\r||"},
		{"{ $full }{ $w }", "2/29/2000, 12:00 AM1.0"},
	} {
		args := usual(t)
		args["bytes"] = value.Str("\xff\xe2\x82{}\n\r")
		checkOf(t, x.pattern, "", args, x.want, "")
	}
}

// TestP16_2OtherKinds is of values of no kind: each is its text.
func TestP16_2OtherKinds(t *testing.T) {
	args := map[string]value.Value{"x": {Kind: 3, Text: "x", Num: dec.Int(1)}, "y": {Kind: -1, Sec: 5}}
	checkOf(t, "{ $x }|{ $y }|{ $x ->\n [x] X\n *[y] Y\n }|{ NUMBER($x) }{ DATETIME($y) }", "", args, "x||Y|{NUMBER()}{DATETIME()}", "BadArg NUMBER(); BadArg DATETIME()")
}

func TestP16_2Places(t *testing.T) {
	x := func(n int) string { return strings.Repeat("{ \"x\" }", n) }
	nest := func(n int) string { return strings.Repeat("{ { \"x\" } }", n) }
	xs := func(n int) string { return strings.Repeat("x", n) }
	out := func(n int) string { return strings.Repeat("{?}", n) }
	const many = "TooMany ?"
	for _, c := range []struct{ pattern, others, want, wrong string }{
		{x(99), "", xs(99), ""},
		{x(100), "", xs(100), ""},
		{x(101), "", xs(100) + "{?}", many},
		{x(103), "", xs(100) + out(3), many},
		{x(5000), "", xs(100) + out(4900), many},
		{x(100) + " text { $z } more { z }{ F() }", "", xs(100) + " text {?} more {?}{?}", many},
		{nest(50), "", xs(50), ""},
		{nest(50) + x(1), "", xs(50) + "{?}", many},
		{nest(49) + x(1) + nest(2), "", xs(50) + "{?}{?}", many}, // the 101st is within the braces of the 100th, and isn't told again
		{x(98) + "{ { { \"x\" } } }" + x(1), "", xs(98) + "{?}{?}", many},
		{x(97) + "{ { { \"x\" } } }" + x(1), "", xs(98) + "{?}", many},
		{x(99) + "{ { $z } }", "", xs(99) + "{?}", many},
		{x(80) + "{ { { { { { { { { { { { { { { { { { { { $x } } } } } } } } } } } } } } } } } } } }", "", xs(80) + "{x}", ""},
		{x(81) + "{ { { { { { { { { { { { { { { { { { { { $x } } } } } } } } } } } } } } } } } } } }", "", xs(81) + "{?}", many},

		{"{ b }" + x(51), "b = " + x(50), xs(99) + out(2), many},
		{x(51) + "{ b }", "b = " + x(50), xs(99) + out(2), many},
		{"{ b }{ b }{ b }", "b = " + x(32), xs(96), ""},
		{"{ b }{ b }{ b }{ b }{ b }", "b = " + x(32), xs(96) + out(33), many}, // the fourth is the 100th place, and those within it are left out
		{"{ -b }" + x(51), "-b = " + x(50), xs(99) + out(2), many},
		{"{ b.k }" + x(51), "b = B\n .k = " + x(50), xs(99) + out(2), many},
		{"{ 1 ->\n *[one] " + x(50) + "\n }" + x(51), "", xs(99) + out(2), many},
		{"{ 1 ->\n [one] " + x(10) + "\n *[two] " + x(90) + "\n }" + x(89), "", xs(99), ""},
		{"{ -b.k ->\n *[one] " + x(50) + "\n }" + x(10), "-b = B\n .k = " + x(50), xs(49) + out(11), many},
		{"{ NUMBER(b) }" + x(51), "b = " + x(50), "{NUMBER()}" + xs(49) + out(2), "BadArg NUMBER(); " + many},
		{"{ NUMBER({ { 1 } }) }" + x(99), "", "{NUMBER()}" + xs(97) + out(2), "BadArg NUMBER(); " + many},
		{"{ NUMBER({ 1 }, { 1 }) }" + x(100), "", "{NUMBER()}" + xs(99) + out(1), "BadArg NUMBER(); " + many},
		{"{ F({ 1 }) }" + x(100), "", "{F()}" + xs(99) + out(1), "NoFunc F(); " + many},
		{"{ -b({ 1 }, { { 1 } }) }" + x(98), "-b = " + x(2), "xx" + xs(97) + out(1), many},
		{"{ NUMBER(NUMBER(NUMBER(1))) }" + x(99), "", "1" + xs(99), ""},
		{"{ a }{ $z }{ z }" + x(98), "", "{a}{$z}{z}" + xs(97) + "{?}", "Cyclic a; NoVar $z; NoMessage z; " + many},
	} {
		checkOf(t, c.pattern, c.others, usual(t), c.want, c.wrong)
	}
}

// TestP16_2Laughs is of messages that ask each other more and more often.
func TestP16_2Laughs(t *testing.T) {
	var s strings.Builder
	for i := range 60 {
		s.WriteString("m" + strconv.Itoa(i) + " =" + strings.Repeat(" { m"+strconv.Itoa(i+1)+" }", 10) + "\n")
	}
	s.WriteString("m60 = x")
	b := made(t, "en", s.String())
	// Of m59 10, 10, 10 and 8 are told; 2 of it, 6 of m58 and 9 of each one ahead of that are left out.
	want := strings.Repeat("x ", 38) + strings.Repeat("{?} ", 2+6+9*58)
	check(t, b, "m0", "", nil, strings.TrimSuffix(want, " "), "TooMany ?")
}

// TestP16_2Chain is of messages that ask each other, each one another.
func TestP16_2Chain(t *testing.T) {
	var s strings.Builder
	for i := range 3000 {
		s.WriteString("m" + strconv.Itoa(i) + " = { m" + strconv.Itoa(i+1) + " }.\n")
	}
	s.WriteString("m3000 = x")
	b := made(t, "en", s.String())
	check(t, b, "m2900", "", nil, "x"+strings.Repeat(".", 100), "")
	check(t, b, "m2899", "", nil, "{?}"+strings.Repeat(".", 101), "TooMany ?")
	check(t, b, "m0", "", nil, "{?}"+strings.Repeat(".", 101), "TooMany ?")
}

func TestP16_2Length(t *testing.T) {
	for _, x := range []struct {
		sign string
		most int // so many of it are just as many signs as there may be
	}{{"x", 2500}, {"é", 2500}, {"漢", 2500}, {"😀", 2500}, {"\n", 2500}, {" ", 2500}, {"e\u0301", 1250}, {"\uFFFD", 2500}, {"\xff", 2500}, {"\xe2\x82", 1250}, {"\xed\xa0\x80x", 625}, {"\xf0\x9f\x98", 833}} {
		most, more := strings.Repeat(x.sign, x.most), strings.Repeat(x.sign, x.most+1)
		checkOf(t, "<{ $x }>", "", map[string]value.Value{"x": value.Str(most)}, "<"+most+">", "")
		checkOf(t, "<{ $x }>", "", map[string]value.Value{"x": value.Str(more)}, "<{?}>", "TooLong ?")
		checkOf(t, "{ $x }{ $x }", "", map[string]value.Value{"x": value.Str(most)}, most+most, "")
		checkOf(t, "{ $x }{ $x }{ $y }", "", map[string]value.Value{"x": value.Str(more)}, "{?}{?}{$y}", "TooLong ?; TooLong ?; NoVar $y")
	}
	checkOf(t, "{ $x }{ $x }", "", map[string]value.Value{"x": value.Str(strings.Repeat("x", 2499) + "\xe2\x82\xac")}, strings.Repeat(strings.Repeat("x", 2499)+"€", 2), "")
	checkOf(t, "{ $x }", "", map[string]value.Value{"x": value.Str(strings.Repeat("x", 2499) + "\xe2\x82")}, "{?}", "TooLong ?")
}

// TestP16_2LengthOfAll is of all kinds of places, with just as many signs as there may be, and with one more.
func TestP16_2LengthOfAll(t *testing.T) {
	const long = "TooLong ?"
	for _, x := range []struct {
		pattern, others string // with S for a sign often enough
		have            int    // how many other signs there are
		ahead, behind   string
		wrong           string
	}{
		{pattern: "{ \"S\" }"},
		{pattern: "{ b }", others: "b = S"},
		{pattern: "{ b.k }", others: "b =\n .k = S"},
		{pattern: "{ -b }", others: "-b = S"},
		{pattern: "{ { \"S\" } }"},
		{pattern: "{ 1 ->\n *[1] S\n }"},
		{pattern: "{ b }", others: "b = 12{ \"S\" }", have: 2, ahead: "12"},
		{pattern: "{ $S }", have: 3, ahead: "{$", behind: "}", wrong: "NoVar $S"},
		{pattern: "{ S }", have: 2, ahead: "{", behind: "}", wrong: "NoMessage S"},
		{pattern: "{ b.S }", others: "b = B", have: 4, ahead: "{b.", behind: "}", wrong: "NoValue b.S"},
		{pattern: "{ -S }", have: 3, ahead: "{-", behind: "}", wrong: "NoTerm -S"},
		{pattern: "{ S() }", have: 4, ahead: "{", behind: "()}", wrong: "NoFunc S()"},
		{pattern: "{ { $S } }", have: 3, ahead: "{$", behind: "}", wrong: "NoVar $S"},
	} {
		for more := range 2 {
			signs := strings.Repeat("S", 2500-x.have+more)
			put := func(s string) string { return strings.Replace(s, "S", signs, 1) }
			want, wrong := x.ahead+signs+x.behind, put(x.wrong)
			if more > 0 {
				want, wrong = "{?}", strings.TrimPrefix(wrong+"; "+long, "; ")
			}
			checkOf(t, put(x.pattern), put(x.others), nil, want, wrong)
		}
	}
}

func TestP16_2LengthElsewhere(t *testing.T) {
	long := strings.Repeat("x", 3000)
	half := strings.Repeat("x", 1300)
	args := map[string]value.Value{"l": value.Str(long), "h": value.Str(half)}
	for _, x := range []struct{ pattern, others, want, wrong string }{
		{long, "", long, ""}, // a text is no place
		{long + "{ $h }{ $h }", "", long + half + half, ""},
		{"{ b }", "b = { $h }{ $h }", "{?}", "TooLong ?"},
		{"{ b }{ $h }", "b = { $l }{ $l }", "{?}{?}" + half, "TooLong ?; TooLong ?"},
		{"{ { { $l } } }", "", "{?}", "TooLong ?"},
		{"{ b }", "b = { c }\nc = { $h }{ $h }", "{?}", "TooLong ?"},
		{"{ b }{ $z }", "b = { $z }{ $h }{ $h }", "{?}{$z}", "NoVar $z; TooLong ?; NoVar $z"},
		{"{ $l ->\n [" + long + "] meant\n *[x] other\n }", "", "meant", ""},
		{"{ -t.k ->\n [" + long + "] meant\n *[x] other\n }", "-t = T\n .k = " + long, "meant", ""},
		{"{ NUMBER(b) }", "b = " + long, "{NUMBER()}", "BadArg NUMBER()"},
		{"{ NUMBER($l) }", "", "{NUMBER()}", "BadArg NUMBER()"},
		{strings.Repeat("{ $l }", 102), "", strings.Repeat("{?}", 102), strings.Repeat("TooLong ?; ", 100) + "TooMany ?"},
	} {
		checkOf(t, x.pattern, x.others, args, x.want, x.wrong)
	}
}

func TestP16_3Literals(t *testing.T) {
	digits := strings.Repeat("1", 41)
	for _, x := range []struct{ pattern, want string }{
		{"{ \"\" }", ""},
		{"{ \"1.0\" }", "1.0"},
		{"{ \"1234\" }", "1234"},
		{"{ \"\\\"\\\\\\u007b\" }", "\"\\{"},
		{"{ 1 }", "1"},
		{"{ 1.0 }", "1.0"},
		{"{ -1234.50 }", "-1,234.50"},
		{"{ 007 }", "7"},
		{"{ -0.00 }", "0.00"},
		{"{ 1.23456 }", "1.23456"},
		{"{ 1." + strings.Repeat("6", 21) + " }", "1." + strings.Repeat("6", 19) + "7"},
		{"{ " + digits + " }", digits},
		{"{ " + digits[1:] + " }", "1" + strings.Repeat(",111", 13)},
		{"{ " + digits + " ->\n [0" + digits + "] number\n *[other] usual\n }", "usual"},
		{"{ " + digits + " ->\n [other] kind\n [" + digits + "] text\n *[x] usual\n }", "text"},
		{"{ 1.0 ->\n [one] one\n *[other] usual\n }", "usual"},
		{"{ 1 ->\n [one] one\n *[other] usual\n }", "one"},
		{"{ 1.0 ->\n [one] one\n [1] number\n *[other] usual\n }", "number"},
		{"{ \"1\" ->\n [one] one\n [1] text\n *[other] usual\n }", "text"},
		{"{ \"1\" ->\n [1.0] number\n *[other] usual\n }", "usual"},
	} {
		checkOf(t, x.pattern, "", nil, x.want, "")
	}
	check(t, made(t, "de", "a = { -1234.50 }{ \"1.5\" }"), "a", "", nil, "-1.234,501.5", "")
}

func TestP16_3Var(t *testing.T) {
	args := usual(t)
	args["X"], args["a-b_1"], args[""], args["$y"] = value.Str("big"), value.Str("long"), value.Str("empty"), value.Str("y")
	for _, x := range []struct{ pattern, want, wrong string }{
		{"{ $x }{ $X }{ $a-b_1 }", "{x}biglong", ""},
		{"{ $y }{ $xx }{ $a-b }", "{$y}{$xx}{$a-b}", "NoVar $y; NoVar $xx; NoVar $a-b"},
		{"{ $e }{ $s }{ $n }{ $w }{ $t }", "11,234.51.01/1/1970", ""},
		{"{ { $y } }", "{$y}", "NoVar $y"},
	} {
		checkOf(t, x.pattern, "", args, x.want, x.wrong)
	}
	checkOf(t, "{ $x }", "", nil, "{$x}", "NoVar $x")
	checkOf(t, "{ $x }", "x = X\n-x = X", map[string]value.Value{}, "{$x}", "NoVar $x")
}

// TestP16_3Nest is of values that are texts, though what stands in the braces is none.
func TestP16_3Nest(t *testing.T) {
	for _, x := range []struct{ pattern, want, wrong string }{
		{"{ { $n } }{ { { 1.0 } } }", "1,234.51.0", ""},
		{"{ NUMBER({ 1 }) }", "{NUMBER()}", "BadArg NUMBER()"},
		{"{ DATETIME({ $t }) }", "{DATETIME()}", "BadArg DATETIME()"},
		{"{ { $one ->\n [one] { \"x\" }\n *[other] y\n } }", "x", ""},
		{"{ { z } }{ { NUMBER($x) } }", "{z}{NUMBER()}", "NoMessage z; BadArg NUMBER()"},
	} {
		checkOf(t, x.pattern, "", usual(t), x.want, x.wrong)
	}
}

func TestP16_3Select(t *testing.T) {
	const others = "-t = T\n .k = K\n .one = 1\n .v = { $v }\n .self = { -t.self ->\n [x] X\n *[y] Y\n }"
	for _, x := range []struct{ asked, variants, want, wrong string }{
		{"$x", "*[x] X|[y] Y", "X", ""},
		{"$s", "[x] X|*[1] one|[1] other", "one", ""},
		{"$s", "[x] X|[1] one|*[1] other", "one", ""},
		{"$s", "*[x] X|[y] Y", "X", ""},
		{"$s", "[y] Y|*[x] X", "X", ""},
		{"$s", "[one] Y|*[x] X", "X", ""},
		{"$s", "[1.0] Y|*[x] X", "X", ""},
		{"$one", "[one] Y|*[x] X", "Y", ""},
		{"$one", "[1.00] Y|*[x] X", "Y", ""},
		{"$one", "[other] Y|*[x] X", "X", ""},
		{"$one", "[one] first|[1] second|*[x] X", "first", ""},
		{"$one", "[1] second|[one] first|*[x] X", "second", ""},
		{"$one", "*[one] first|[1] second", "first", ""},
		{"$n", "[1234.5] Y|*[x] X", "Y", ""},
		{"$n", "[1234.50] Y|*[x] X", "Y", ""},
		{"$n", "[1] A|[-1234.5] B|*[x] X", "X", ""},
		{"$n", "*[x] X|[other] Y", "Y", ""},
		{"$w", "[one] Y|*[x] X", "X", ""},
		{"$w", "[1] Y|*[x] X", "Y", ""},
		{"$t", "[0] Y|[other] Z|*[x] X", "X", ""},
		{"$e", "[one] Y|*[x] X", "X", ""},
		{"$z", "[z] Y|[other] O|*[x] X", "X", "NoVar $z"},
		{"$z", "[z] { $y }|*[x] { $z }", "{$z}", "NoVar $z; NoVar $z"},
		{"\"k\"", "[K] Y|[k] k|*[x] X", "k", ""},
		{"2", "[two] Y|[other] other|*[x] X", "other", ""},
		{"$one", "[one] 1234|*[x] X", "1234", ""}, // a text, whatever stands there
		{"$z", "[one] Y|*[x] 007.0", "007.0", "NoVar $z"},
		{"NUMBER($one, minimumFractionDigits: 1)", "[one] Y|*[other] X", "X", ""},
		{"NUMBER(2, type: \"ordinal\")", "[two] Y|*[other] X", "Y", ""},
		{"NUMBER(2)", "[two] Y|*[other] X", "X", ""},
		{"NUMBER($z)", "[one] Y|*[other] X", "X", "NoVar $z"},
		{"NUMBER($x)", "[one] Y|*[other] X", "X", "BadArg NUMBER()"},
		{"F()", "[one] Y|*[other] X", "X", "NoFunc F()"},
		{"DATETIME($t)", "[one] Y|*[other] X", "X", ""},
		{"-t.k", "[K] Y|*[x] X", "Y", ""},
		{"-t.one", "[one] Y|[1.0] Z|*[x] X", "X", ""},
		{"-t.one", "[1] Y|*[x] X", "Y", ""},
		{"-t.v(v: \"q\")", "[q] Y|*[x] { $x }", "Y", ""},
		{"-t.v(v: \"r\")", "[q] Y|*[x] { $v }", "{$v}", "NoVar $v"}, // what was handed to the term isn't there any more
		{"-t.v", "[q] Y|*[x] { $s }", "1", "NoVar $v"},
		{"-t.self", "[X] Y|[Y] Z|*[x] X", "Z", "Cyclic -t.self"},
		{"-t.z", "[z] Y|*[x] X", "X", "NoValue -t.z"},
		{"-u.k", "[u] Y|*[x] X", "X", "NoTerm -u.k"},
	} {
		pattern := "<{ " + x.asked + " ->\n " + strings.ReplaceAll(x.variants, "|", "\n ") + "\n }>"
		checkOf(t, pattern, others, usual(t), "<"+x.want+">", x.wrong)
	}
}

func TestP16_3Msg(t *testing.T) {
	const others = "b = B\n .k = K\n .k = L\nc =\n .k = C\nx-Y_1 = { $x }\n .k = { b }{ b.k }\n-t = T\n-b = other\n .z = Z"
	for _, x := range []struct{ pattern, want, wrong string }{
		{"{ b }{ b.k }{ c.k }{ x-Y_1 }{ x-Y_1.k }", "BLC{x}BL", ""},
		{"{ b }{ b }{ b.k }{ b }", "BBLB", ""},
		{"{ c }{ b.z }{ c.z }", "{c}{b.z}{c.z}", "NoValue c; NoValue b.z; NoValue c.z"},
		{"{ t }{ t.k }{ B }{ z }{ z.k }", "{t}{t.k}{B}{z}{z.k}", "NoMessage t; NoMessage t.k; NoMessage B; NoMessage z; NoMessage z.k"},
		{"{ a }{ a.k }", "{a}{a.k}", "Cyclic a; NoValue a.k"},
		{"{ NUMBER(b) }{ NUMBER(c) }", "{NUMBER()}{NUMBER()}", "BadArg NUMBER(); NoValue c"},
	} {
		checkOf(t, x.pattern, others, usual(t), x.want, x.wrong)
	}
}

func TestP16_3Cyclic(t *testing.T) {
	b := made(t, "en", `a = 1{ b }{ b }
 .k = { a }{ a.k }{ a.l }
 .l = { a.k }
b = 2{ c }{ -t }
c = 3{ a }{ b }{ c }
d = { d }
e = { -t }{ -t.k ->
   *[x] K
 }{ -t(x: 1) }
-t = t{ $x }{ -t }{ -t(x: 1) }{ c2 }
 .k = k{ -t }{ e }
c2 = { -t }{ t }
t = T
n = { NUMBER(n) }{ { n } }{ $x ->
   *[x] { n }
 }
`)
	const t0, tErrs = "t{$x}{-t}{-t}{-t}T", "NoVar $x; Cyclic -t; Cyclic -t; Cyclic -t"
	const t1, t1Errs = "t1{-t}{-t}{-t}T", "Cyclic -t; Cyclic -t; Cyclic -t"
	for _, x := range []struct{ name, attr, want, wrong string }{
		{"a", "", "123{a}{b}{c}" + t0 + "23{a}{b}{c}" + t0, "Cyclic a; Cyclic b; Cyclic c; " + tErrs + "; Cyclic a; Cyclic b; Cyclic c; " + tErrs},
		{"a", "k", "123{a}{b}{c}" + t0 + "23{a}{b}{c}" + t0 + "{a.k}{a.k}", "Cyclic a; Cyclic b; Cyclic c; " + tErrs + "; Cyclic a; Cyclic b; Cyclic c; " + tErrs + "; Cyclic a.k; Cyclic a.k"},
		{"d", "", "{d}", "Cyclic d"},
		{"e", "", t0 + "K" + t1, tErrs + "; " + tErrs + "; Cyclic e; " + t1Errs},
		{"n", "", "{NUMBER()}{n}{n}", "Cyclic n; Cyclic n; Cyclic n"},
	} {
		args := map[string]value.Value{}
		if x.name == "n" {
			args["x"] = value.Str("x")
		}
		check(t, b, x.name, x.attr, args, x.want, x.wrong)
	}
}

func TestP16_3Term(t *testing.T) {
	const others = "-t = <{ $n }>\n .k = { $n }\n .p = { b }\n-u = [{ -t }{ -t(n: 2.50) }{ $n }]\n-v = { b }{ b.k }\nb = ({ $n })\n .k = { -t(n: \"in\") }{ $n }\n-sel = { $n ->\n [one] 1\n *[other] more\n }\n-num = { NUMBER($n, minimumFractionDigits: 2) }{ DATETIME($t) }\n-all = { $n }{ $x }{ $t }{ $o }"
	for _, x := range []struct{ pattern, want, wrong string }{
		{"{ -t(n: \"s\") }", "<s>", ""},
		{"{ -t(n: 1.0) }", "<1.0>", ""},
		{"{ -t(n: 1234.50) }", "<1,234.50>", ""},
		{"{ -t(n: \"1234.50\") }", "<1234.50>", ""},
		{"{ -t }", "<{$n}>", "NoVar $n"},
		{"{ -t() }", "<{$n}>", "NoVar $n"},
		{"{ -t($n) }", "<{$n}>", "NoVar $n"},
		{"{ -t($z, F(), z, { $z }, -z, n: 1) }", "<1>", ""},
		{"{ -t(m: 1, N: 2) }", "<{$n}>", "NoVar $n"},
		{"{ -t(m: 1, n: 2, o: 3) }{ $n }", "<2>1,234.5", ""},
		{"{ -u(n: 1) }", "[<{$n}><2.50>1]", "NoVar $n"},
		{"{ -v(n: 7) }", "(7)<in>7", ""},
		{"{ b }{ -v }", "(1,234.5)({$n})<in>{$n}", "NoVar $n; NoVar $n"},
		{"{ -sel(n: 1) }{ -sel(n: 1.0) }{ -sel(n: \"one\") }{ -sel }", "1more1more", "NoVar $n"},
		{"{ -num(n: 1, t: 0) }", "1.00{DATETIME()}", "BadArg DATETIME()"},
		{"{ -num(n: \"1\") }", "{NUMBER()}{DATETIME()}", "BadArg NUMBER(); NoVar $t"},
		{"{ -all(o: \"o\", x: 0) }", "{$n}0{$t}o", "NoVar $n; NoVar $t"},
		{"{ -z }{ -b }{ -T }", "{-z}{-b}{-T}", "NoTerm -z; NoTerm -b; NoTerm -T"},
		{"{ -z($q, n: 1) }", "{-z}", "NoTerm -z"},
		{"{ NUMBER(-t(n: 1)) }{ NUMBER(-z) }", "{NUMBER()}{NUMBER()}", "BadArg NUMBER(); NoTerm -z"},
		{"{ -t.p(n: 3) ->\n *[x] { $n }\n }{ -t.k(n: \"c\") ->\n [c] C\n *[x] X\n }", "1,234.5C", ""},
	} {
		checkOf(t, x.pattern, others, usual(t), x.want, x.wrong)
	}
	check(t, made(t, "de", "a = { -t(n: 1234.50) }\n-t = { $n }"), "a", "", nil, "1.234,50", "")
}

func TestP16_4Which(t *testing.T) {
	for _, x := range []struct{ pattern, want, wrong string }{
		{"{ NUMBER($n) }{ DATETIME($t) }", "1,234.51/1/1970", ""},
		{"{ F() }{ NUMBERS(1) }{ NUMBE(1) }{ N($n) }", "{F()}{NUMBERS()}{NUMBE()}{N()}", "NoFunc F(); NoFunc NUMBERS(); NoFunc NUMBE(); NoFunc N()"},
		{"{ DATETIME-1($t) }{ DATE_TIME($t) }{ DATE($t) }", "{DATETIME-1()}{DATE_TIME()}{DATE()}", "NoFunc DATETIME-1(); NoFunc DATE_TIME(); NoFunc DATE()"},
		{"{ F($z, z: 1) }", "{F()}", "NoFunc F()"}, // nothing of its arguments is looked at
		{"{ NUMBER() }{ DATETIME() }", "{NUMBER()}{DATETIME()}", "BadArg NUMBER(); BadArg DATETIME()"},
		{"{ NUMBER($z, $n) }{ NUMBER(z, 1, type: \"ordinal\") }", "{NUMBER()}{NUMBER()}", "BadArg NUMBER(); BadArg NUMBER()"},
		{"{ NUMBER(1, 1) }{ NUMBER(1, F(), 2) }", "{NUMBER()}{NUMBER()}", "BadArg NUMBER(); BadArg NUMBER()"},
		{"{ NUMBER(type: \"ordinal\") }{ DATETIME(style: \"full\") }", "{NUMBER()}{DATETIME()}", "BadArg NUMBER(); BadArg DATETIME()"},
		{"{ NUMBER(x: 1) }{ NUMBER(minimumFractionDigits: 2, maximumFractionDigits: 3) }", "{NUMBER()}{NUMBER()}", "BadArg NUMBER(); BadArg NUMBER()"},
		{"{ DATETIME($t, $t) }{ DATETIME($t, $z, style: \"full\") }", "{DATETIME()}{DATETIME()}", "BadArg DATETIME(); BadArg DATETIME()"},
		{"{ NUMBER($z) }{ NUMBER($z, q: 1) }{ DATETIME($z, q: 1) }", "{NUMBER()}{NUMBER()}{DATETIME()}", "NoVar $z; NoVar $z; NoVar $z"},
		{"{ NUMBER(z) }{ NUMBER(z.k) }{ NUMBER(-z) }{ NUMBER(a) }{ NUMBER(a.k) }", strings.Repeat("{NUMBER()}", 5), "NoMessage z; NoMessage z.k; NoTerm -z; Cyclic a; NoValue a.k"},
		{"{ NUMBER($x) }{ NUMBER($s) }{ NUMBER($t) }{ NUMBER(\"1\") }", strings.Repeat("{NUMBER()}", 4), strings.Repeat("BadArg NUMBER(); ", 3) + "BadArg NUMBER()"},
		{"{ DATETIME($x) }{ DATETIME($n) }{ DATETIME(0) }{ DATETIME(\"date\") }", strings.Repeat("{DATETIME()}", 4), strings.Repeat("BadArg DATETIME(); ", 3) + "BadArg DATETIME()"},
		{"{ NUMBER(" + strings.Repeat("1", 41) + ") }{ NUMBER(" + strings.Repeat("1", 4) + ") }", "{NUMBER()}1,111", "BadArg NUMBER()"},
		{"{ NUMBER({ $z }) }{ NUMBER({ $n }) }", "{NUMBER()}{NUMBER()}", "NoVar $z; BadArg NUMBER(); BadArg NUMBER()"},
	} {
		checkOf(t, x.pattern, "", usual(t), x.want, x.wrong)
	}
}

func TestP16_4Number(t *testing.T) {
	noughts := strings.Repeat("0", 40)
	for _, x := range []struct{ args, want string }{
		{"$n", "1,234.5"},
		{"1.50", "1.50"},
		{"1.5, minimumFractionDigits: 3", "1.500"},
		{"1.50, minimumFractionDigits: 0", "1.5"},
		{"1.50, maximumFractionDigits: 0", "2"},
		{"$n, maximumFractionDigits: 0", "1,234"},
		{"$n, minimumFractionDigits: 2, maximumFractionDigits: 0", "1,234"},
		{"$n, maximumFractionDigits: 0, minimumFractionDigits: 2", "1,234.50"},
		{"$n, maximumFractionDigits: 1, minimumFractionDigits: 0", "1,234.5"},
		{"$n, minimumFractionDigits: 20", "1,234.5" + noughts[:19]},
		{"$n, minimumFractionDigits: 2.0", "1,234.50"},
		{"$n, minimumFractionDigits: 002", "1,234.50"},
		{"$n, minimumIntegerDigits: 6", "001,234.5"},
		{"1, minimumIntegerDigits: 1", "1"},
		{"$n, useGrouping: \"false\"", "1234.5"},
		{"$n, useGrouping: \"true\"", "1,234.5"},
		{"$n, type: \"ordinal\"", "1,234.5"},
		{"$n, type: \"cardinal\", useGrouping: \"false\", minimumIntegerDigits: 5, minimumFractionDigits: 2", "01234.50"},
		{"NUMBER($n)", "1,234.5"},
		{"NUMBER($n, minimumFractionDigits: 2)", "1,234.50"},
		{"NUMBER($n, minimumFractionDigits: 2), useGrouping: \"false\"", "1234.50"},
		{"NUMBER($n, useGrouping: \"false\"), useGrouping: \"true\"", "1,234.5"},
		{"NUMBER(NUMBER($n, minimumIntegerDigits: 5), maximumFractionDigits: 0), minimumFractionDigits: 1", "01,234.5"},
	} {
		checkOf(t, "{ NUMBER("+x.args+") }", "", usual(t), x.want, "")
	}
	for _, args := range []string{
		"x: 1", "minimumFractionDigits: -1", "minimumFractionDigits: 21", "minimumFractionDigits: 1.5", "minimumFractionDigits: \"1\"", "minimumFractionDigits: \"\"",
		"maximumFractionDigits: 21", "maximumFractionDigits: \"0\"", "minimumIntegerDigits: 0", "minimumIntegerDigits: \"2\"", "minimumFractionDigits: " + noughts + "1",
		"useGrouping: 0", "useGrouping: \"\"", "useGrouping: \"False\"", "type: 1", "type: \"Ordinal\"", "style: \"full\"", "MinFrac: 1",
		"useGrouping: \"true\", x: 1", "x: 1, useGrouping: \"true\"", "minimumFractionDigits: 2, type: \"x\"", "type: \"x\", minimumFractionDigits: 2",
	} {
		checkOf(t, "{ NUMBER($n, "+args+") }{ $n }", "", usual(t), "{NUMBER()}1,234.5", "BadArg NUMBER()")
	}
}

func TestP16_4Moment(t *testing.T) {
	for _, x := range []struct{ args, want string }{
		{"$t", "1/1/1970"},
		{"$full", "2/29/2000, 12:00 AM"},
		{"$full, style: \"date\"", "2/29/2000"},
		{"$t, style: \"date\"", "1/1/1970"},
		{"$t, style: \"time\"", "12:00 AM"},
		{"$t, style: \"full\"", "1/1/1970, 12:00 AM"},
		{"DATETIME($t)", "1/1/1970"},
		{"DATETIME($t, style: \"full\")", "1/1/1970, 12:00 AM"},
		{"DATETIME($full, style: \"date\"), style: \"time\"", "12:00 AM"},
	} {
		checkOf(t, "{ DATETIME("+x.args+") }", "", usual(t), x.want, "")
	}
	for _, args := range []string{
		"style: \"\"", "style: \"Full\"", "style: \"day\"", "style: 1", "style: 0", "Style: \"full\"", "x: \"full\"", "type: \"ordinal\"", "useGrouping: \"true\"",
		"style: \"full\", x: 1", "x: 1, style: \"full\"", "style: \"full\", Style: \"full\"",
	} {
		checkOf(t, "{ DATETIME($t, "+args+") }{ $t }", "", usual(t), "{DATETIME()}1/1/1970", "BadArg DATETIME()")
	}
}

// TestP16_4Within is of functions within each other of which one has no value: it alone tells why, and the outermost one's name stands there.
func TestP16_4Within(t *testing.T) {
	for _, x := range []struct{ pattern, want, wrong string }{
		{"{ NUMBER(DATETIME($t)) }", "{NUMBER()}", "BadArg NUMBER()"},
		{"{ DATETIME(NUMBER($n)) }", "{DATETIME()}", "BadArg DATETIME()"},
		{"{ NUMBER(DATETIME(NUMBER($n))) }", "{NUMBER()}", "BadArg DATETIME()"},
		{"{ DATETIME(NUMBER($n, q: 1)) }", "{DATETIME()}", "BadArg NUMBER()"},
		{"{ DATETIME(NUMBER($z)) }", "{DATETIME()}", "NoVar $z"},
		{"{ NUMBER(F(NUMBER($z)), q: 1) }", "{NUMBER()}", "NoFunc F()"},
		{"{ F(NUMBER($z)) }", "{F()}", "NoFunc F()"},
		{"{ DATETIME(NUMBER()) }", "{DATETIME()}", "BadArg NUMBER()"},
		{"{ DATETIME(NUMBER(F(), F()), x: 1) }", "{DATETIME()}", "BadArg NUMBER()"},
		{"{ NUMBER(NUMBER($n), $z) }", "{NUMBER()}", "BadArg NUMBER()"},
		{"{ NUMBER({ NUMBER($z) }) }", "{NUMBER()}", "NoVar $z; BadArg NUMBER()"},
		{"{ { NUMBER(F()) } }", "{NUMBER()}", "NoFunc F()"},
	} {
		checkOf(t, x.pattern, "", usual(t), x.want, x.wrong)
	}
}

// TestP16_4NothingIsTurned is of values that come with options: a function turns its own copy.
func TestP16_4NothingIsTurned(t *testing.T) {
	args := usual(t)
	o, _ := number.Default().Set("minimumFractionDigits", "", dec.Int(2), false)
	n := args["n"]
	n.Opts = o
	args["n"] = n
	checkOf(t, "{ $n }{ NUMBER($n) }{ NUMBER($n, useGrouping: \"false\") }{ $n }{ DATETIME($full, style: \"time\") }{ $full }", "", args,
		"1,234.501,234.501234.501,234.5012:00 AM2/29/2000, 12:00 AM", "")
}

// TestP16_4Deep is of functions that stand within each other's arguments deeper than calls can.
func TestP16_4Deep(t *testing.T) {
	defer debug.SetMaxStack(debug.SetMaxStack(4 << 20))
	const deep = 300_000
	within := func(inner, outer string) string {
		return "{ " + strings.Repeat("NUMBER(", deep) + inner + strings.Repeat(outer, deep) + " }"
	}
	args := usual(t)
	checkOf(t, within("$n", ")"), "", args, "1,234.5", "")
	checkOf(t, within("$n", ", minimumFractionDigits: 2)"), "", args, "1,234.50", "")
	checkOf(t, within("$z", ")"), "", args, "{NUMBER()}", "NoVar $z")
	checkOf(t, within("$t", ")"), "", args, "{NUMBER()}", "BadArg NUMBER()")
	checkOf(t, within("$n", ", $n)"), "", args, "{NUMBER()}", "BadArg NUMBER()")
	checkOf(t, "{ -t("+strings.Repeat("NUMBER(", deep)+strings.Repeat(")", deep)+") }", "-t = T", args, "T", "") // of which nothing is looked at
}

// TestP16_2Great is of great patterns, with many places, variants, options and arguments.
func TestP16_2Great(t *testing.T) {
	const many = 100_000
	args := usual(t)
	checkOf(t, strings.Repeat("a{ $x }", many), "", args, strings.Repeat("a{x}", 100)+strings.Repeat("a{?}", many-100), "TooMany ?")
	checkOf(t, "{ $n ->\n"+strings.Repeat(" [k] K\n", many)+" *[other] last\n }", "", args, "last", "")
	var named strings.Builder
	for i := range many {
		named.WriteString(", n" + strconv.Itoa(i) + ": " + strconv.Itoa(i))
	}
	checkOf(t, strings.Repeat("{ -t(1"+named.String()+") }", 3), "-t = { $n7 }-{ $n99999 }", args, strings.Repeat("7-99,999", 3), "")
	checkOf(t, "{ NUMBER(1"+named.String()+") }", "", args, "{NUMBER()}", "BadArg NUMBER()")
	checkOf(t, "{ NUMBER(1"+strings.Repeat(", 1", many)+") }", "", args, "{NUMBER()}", "BadArg NUMBER()")
	great := strings.Repeat("greater ", 10*many) + "."
	checkOf(t, strings.Repeat("{ b }", 101), "b = "+great, args, strings.Repeat("{?}", 101), strings.Repeat("TooLong ?; ", 100)+"TooMany ?")
}
