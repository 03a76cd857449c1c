package serial_test

import (
	"slices"
	"strconv"
	"strings"
	"testing"

	"polyglot/ast"
	"polyglot/entry"
	"polyglot/serial"
)

// of is a pattern of texts and of places.
func of(parts ...any) []ast.Elem {
	var list []ast.Elem
	for _, p := range parts {
		switch x := p.(type) {
		case string:
			list = append(list, ast.Elem{Text: x})
		case ast.Expr:
			list = append(list, ast.Elem{Place: &x})
		}
	}
	return list
}

func str(s string) ast.Expr { return ast.Expr{Kind: ast.Str, Text: s} }

func num(s string) ast.Expr { return ast.Expr{Kind: ast.Num, Text: s} }

func variable(name string) ast.Expr { return ast.Expr{Kind: ast.Var, Name: name} }

func reference(name, attr string) ast.Expr { return ast.Expr{Kind: ast.Msg, Name: name, Attr: attr} }

func term(name, attr string, args ...ast.Arg) ast.Expr {
	return ast.Expr{Kind: ast.Term, Name: name, Attr: attr, Args: args}
}

func function(name string, args ...ast.Arg) ast.Expr {
	return ast.Expr{Kind: ast.Func, Name: name, Args: args}
}

func nest(e ast.Expr) ast.Expr { return ast.Expr{Kind: ast.Nest, Inner: &e} }

func choose(e ast.Expr, variants ...ast.Variant) ast.Expr {
	return ast.Expr{Kind: ast.Select, Inner: &e, Variants: variants}
}

func variant(key string, parts ...any) ast.Variant { return ast.Variant{Key: key, Value: of(parts...)} }

func usual(key string, parts ...any) ast.Variant {
	return ast.Variant{Key: key, Default: true, Value: of(parts...)}
}

func arg(e ast.Expr) ast.Arg { return ast.Arg{Value: e} }

func named(name string, e ast.Expr) ast.Arg { return ast.Arg{Name: name, Value: e} }

func message(parts ...any) ast.Entry {
	return ast.Entry{Type: ast.Message, Name: "m", Value: of(parts...)}
}

func attr(name string, parts ...any) ast.Attr { return ast.Attr{Name: name, Value: of(parts...)} }

// with is an entry with these attributes.
func with(e ast.Entry, attrs ...ast.Attr) ast.Entry {
	e.Attrs = attrs
	return e
}

// asTerm is a term with what a message has.
func asTerm(e ast.Entry) ast.Entry {
	e.Type = ast.Entity
	return e
}

func comment(level int, text string) ast.Entry {
	return ast.Entry{Type: ast.Comment, Level: level, Text: text}
}

func junk(s string) ast.Entry { return ast.Entry{Type: ast.Junk, Text: s} }

func repeat(s string, n int) string { return strings.Repeat(s, n) }

// shorten is a text, or the beginning of a long one.
func shorten(s string) string {
	if len(s) > 600 {
		return strconv.Quote(s[:600]) + " and more"
	}
	return strconv.Quote(s)
}

// areSame tells whether two lists have the same entries.
func areSame(list, other []ast.Entry) bool { return slices.EqualFunc(list, other, ast.Entry.Same) }

// checkResource tells whether entries are written so, and read again as the same ones.
func checkResource(t *testing.T, want string, list ...ast.Entry) {
	t.Helper()
	got := serial.Resource(list)
	if got != want {
		t.Errorf("Resource: %s, want %s", shorten(got), shorten(want))
	}
	if again := entry.Parse(got); !areSame(again, list) {
		t.Errorf("%s is read as other entries: %s", shorten(got), shorten(serial.Resource(again)))
	}
}

// checkEntry is checkResource of an entry alone, and of it among others.
func checkEntry(t *testing.T, want string, e ast.Entry) {
	t.Helper()
	if !e.Right() {
		t.Errorf("none that may be: %s", shorten(want))
	}
	if got := serial.Entry(e); got != want {
		t.Errorf("Entry: %s, want %s", shorten(got), shorten(want))
	}
	checkResource(t, want, e)
	checkResource(t, "m = 1\n"+want+"-m = 1\n", message("1"), e, asTerm(message("1")))
	checkResource(t, "m = 1\n    .a = 1\n"+want+"?\n", with(message("1"), attr("a", "1")), e, junk("?\n"))
	checkResource(t, "?\n"+want+" .a = }\n", junk("?\n"), e, junk(" .a = }\n"))
}

// checkPattern is checkEntry of a pattern: of a message, of a term, of attributes and of a variant. In want each ~ stands for the margin.
func checkPattern(t *testing.T, want string, list []ast.Elem) {
	t.Helper()
	behind := func(margin int) string { return strings.ReplaceAll(want, "~", repeat(" ", margin)) }
	e := message()
	e.Value = list
	a := ast.Attr{Name: "a", Value: list}
	x := choose(variable("x"), ast.Variant{Key: "k", Default: true, Value: list})
	checkEntry(t, "m ="+behind(4)+"\n", e)
	checkEntry(t, "-m ="+behind(4)+"\n", asTerm(e))
	checkEntry(t, "m ="+behind(4)+"\n    .a ="+behind(8)+"\n    .b = 1\n", with(e, a, attr("b", "1")))
	checkEntry(t, "m =\n    .b = 1\n    .a ="+behind(8)+"\n", with(message(), attr("b", "1"), a))
	checkEntry(t, "-m = 1\n    .a ="+behind(8)+"\n", with(asTerm(message("1")), a))
	checkEntry(t, "m = { $x ->\n       *[k]"+behind(12)+"\n    }\n", message(x))
	checkEntry(t, "m = 1\n    .b = { $x ->\n           *[k]"+behind(16)+"\n        }\n", with(message("1"), attr("b", x)))
}

// checkPlace is checkPattern of an expression in braces, beside texts too.
func checkPlace(t *testing.T, want string, e ast.Expr) {
	t.Helper()
	checkPattern(t, " "+want, of(e))
	checkPattern(t, " "+want+want, of(e, e))
	checkPattern(t, " a"+want+" b", of("a", e, " b"))
	checkPattern(t, "\n~a\n~"+want+"\n\n~  "+want+"\n~b", of("a\n", e, "\n\n  ", e, "\nb"))
	checkPattern(t, " *a\n~  "+want+"\n~b", of("*a\n  ", e, "\nb"))
}

// checkInline is checkPlace of an expression, and of it within others.
func checkInline(t *testing.T, want string, e ast.Expr) {
	t.Helper()
	checkPlace(t, "{ "+want+" }", e)
	checkPlace(t, "{ { "+want+" } }", nest(e))
	checkPlace(t, "{ F("+want+") }", function("F", arg(e)))
	checkPlace(t, "{ -t("+want+", "+want+", o: 1) }", term("t", "", arg(e), arg(e), named("o", num("1"))))
	checkPlace(t, "{ F(G("+want+", 1), { "+want+" }) }", function("F", arg(function("G", arg(e), arg(num("1")))), arg(nest(e))))
	checkPlace(t, "{ $x ->\n~   *[k] { "+want+" }\n~    [l] b{ "+want+" }\n~}", choose(variable("x"), usual("k", e), variant("l", "b", e)))
}

// checkAsked is checkInline of an expression of which there may be variants, and checkPlace of such a Select.
func checkAsked(t *testing.T, want string, e ast.Expr) {
	t.Helper()
	if e.Kind != ast.Term {
		checkInline(t, want, e)
	}
	checkPlace(t, "{ "+want+" ->\n~   *[k] v\n~}", choose(e, usual("k", "v")))
}

func TestP10Examples(t *testing.T) {
	e := message(num("1"), "x\ny")
	e.Name = "a"
	checkEntry(t, "a =\n    { 1 }x\n    y\n", e)
}

func TestP10_1Inline(t *testing.T) {
	for _, c := range []struct{ s, want string }{
		{"", `""`}, {"a", `"a"`}, {" ", `" "`}, {`"`, `"\""`}, {`\`, `"\\"`}, {`\u0041`, `"\\u0041"`}, {"\n", `"\u000A"`}, {"\r\n\t\x00\x1f", `"\u000D\u000A\u0009\u0000\u001F"`}, {"\x7f\u0080", "\"\\u007F\u0080\""},
		{"é漢😀\uFFFD", "\"é漢😀\uFFFD\""}, {"{ $x }", `"{ $x }"`}, {"}", `"}"`}, {"->", `"->"`}, {"# a = [b] *.", `"# a = [b] *."`},
	} {
		checkAsked(t, c.want, str(c.s))
	}
	for _, s := range []string{"0", "-0", "1", "007", "-1.50", "12.5", "-0.0", repeat("9", 60) + "." + repeat("0", 60)} {
		checkAsked(t, s, num(s))
	}
	for _, name := range []string{"x", "A", "a-b_1", "NUMBER", "a--"} {
		checkAsked(t, "$"+name, variable(name))
		checkInline(t, name, reference(name, ""))
		checkInline(t, name+".b-2_", reference(name, "b-2_"))
		checkInline(t, name+".B", reference(name, "B"))
		checkInline(t, "-"+name, term(name, ""))
		checkAsked(t, "-"+name+".b", term(name, "b"))
		checkAsked(t, "-"+name+".B_2-(1)", term(name, "B_2-", arg(num("1"))))
	}
	for _, name := range []string{"F", "NUMBER", "F-1_"} {
		checkAsked(t, name+"()", function(name))
	}
}

func TestP10_1Arguments(t *testing.T) {
	x, one, s := variable("x"), num("1"), str("s")
	for _, c := range []struct {
		args []ast.Arg
		want string
	}{
		{[]ast.Arg{arg(x)}, "($x)"}, {[]ast.Arg{arg(one), arg(one)}, "(1, 1)"}, {[]ast.Arg{arg(one), arg(s), arg(x)}, `(1, "s", $x)`}, {[]ast.Arg{named("o", one)}, "(o: 1)"}, {[]ast.Arg{named("o", s), named("P-1_", num("-1.50"))}, `(o: "s", P-1_: -1.50)`},
		{[]ast.Arg{arg(x), named("o", one)}, "($x, o: 1)"}, {[]ast.Arg{arg(str("")), arg(x), named("x", str("")), named("o", str(", \n"))}, `("", $x, x: "", o: ", \u000A")`},
		{[]ast.Arg{arg(reference("m", "")), arg(reference("M", "")), arg(reference("m", "a")), arg(term("t", ""))}, "(m, M, m.a, -t)"},
		{[]ast.Arg{arg(function("G")), arg(function("G", arg(function("H")))), arg(term("u", "", arg(x), named("o", one))), named("p", one)}, "(G(), G(H()), -u($x, o: 1), p: 1)"},
		{[]ast.Arg{arg(nest(x)), arg(nest(nest(one)))}, "({ $x }, { { 1 } })"},
		{[]ast.Arg{arg(function("G", arg(function("H", arg(one), arg(s))), arg(x))), arg(one)}, `(G(H(1, "s"), $x), 1)`},
	} {
		checkAsked(t, "F"+c.want, function("F", c.args...))
		checkInline(t, "-t"+c.want, term("t", "", c.args...))
		checkAsked(t, "-t.a"+c.want, term("t", "a", c.args...))
	}
}

func TestP10_1Selects(t *testing.T) {
	x := variable("x")
	inner := choose(str("s"), variant("0", x), usual("k", "a\n b"))
	for _, c := range []struct {
		want string
		e    ast.Expr
	}{
		{"{ $x ->\n~   *[k] v\n~}", choose(x, usual("k", "v"))},
		{"{ $x ->\n~    [one] v\n~    [-1.50] 2\n~   *[A-b_1] w\n~    [one] { \"\" }\n~}", choose(x, variant("one", "v"), variant("-1.50", "2"), usual("A-b_1", "w"), variant("one", str("")))},
		{"{ $x ->\n~   *[k] v\n~    [l] w\n~}", choose(x, usual("k", "v"), variant("l", "w"))},
		{"{ $x ->\n~    [k]\n~        v\n~         w\n~   *[l] [v\n~        w\n~    [m]\n~        { $x }\n\n~        v\n~}", choose(x, variant("k", "v\n w"), usual("l", "[v\nw"), variant("m", x, "\n\nv"))},
		{"{ $x ->\n~   *[k] a{ \"s\" ->\n~            [0] { $x }\n~           *[k]\n~                a\n~                 b\n~        }\n~}", choose(x, usual("k", "a", inner))},
		// Braces right within braces are behind the same margin.
		{"{ { \"s\" ->\n~    [0] { $x }\n~   *[k]\n~        a\n~         b\n~} }", nest(inner)},
		{"{ F({ \"s\" ->\n~    [0] { $x }\n~   *[k]\n~        a\n~         b\n~}, 1) ->\n~   *[k] v\n~}", choose(function("F", arg(nest(inner)), arg(num("1"))), usual("k", "v"))},
	} {
		checkPlace(t, c.want, c.e)
	}
}

func TestP10_2Patterns(t *testing.T) {
	x := variable("x")
	for _, c := range []struct {
		want string
		list []ast.Elem
	}{
		// Without a line feed a pattern stands behind its name.
		{" a", of("a")}, {" a  b", of("a  b")}, {" .a", of(".a")}, {" *", of("*")}, {" [a] b", of("[a] b")}, {" =", of("=")}, {" # a", of("# a")}, {" \"a\" -> -b", of("\"a\" -> -b")}, {" \ta\t", of("\ta\t")}, {" é漢😀\x00\u00a0", of("é漢😀\x00\u00a0")}, {" ]", of("]")},
		{" { $x }", of(x)}, {" { $x }a", of(x, "a")}, {" { $x }  a", of(x, "  a")}, {" a  { $x }", of("a  ", x)}, {" { $x } { $x }", of(x, " ", x)}, {" { $x }.*[", of(x, ".*[")}, {" *{ $x }", of("*", x)}, {" { \"\\u000A\" }", of(str("\n"))},
		// With one it begins on a line of its own.
		{"\n~a\n~b", of("a\nb")}, {"\n~a\n~ b", of("a\n b")}, {"\n~a\n~    b\n~  c\n~d", of("a\n    b\n  c\nd")}, {"\n~a  \n~b", of("a  \nb")}, {"\n~a.\n~b*[.", of("a.\nb*[.")}, {"\n~# a\n~-b = c\n~d = e", of("# a\n-b = c\nd = e")}, {"\n~=\n~=", of("=\n=")}, {"\n~\ta\n~\tb", of("\ta\n\tb")}, {"\n~a\n~\t", of("a\n\t")},
		{"\n~{ $x }\n~a", of(x, "\na")}, {"\n~{ $x }\n~{ $x }", of(x, "\n", x)}, {"\n~a\n~{ $x }", of("a\n", x)}, {"\n~a\n~  { $x } b", of("a\n  ", x, " b")}, {"\n~{ $x }{ $x }a\n~b", of(x, x, "a\nb")}, {"\n~{ $x }.\n~a", of(x, ".\na")},
		{"\n~{ 1 }x\n~y", of(num("1"), "x\ny")}, {"\n~a\n~{ $x }.", of("a\n", x, ".")}, {"\n~{ $x }  \n~a", of(x, "  \na")},
		// Behind a mark it can't.
		{" .\n~a", of(".\na")}, {" [a\n~b", of("[a\nb")}, {" *a\n~  b\n~c", of("*a\n  b\nc")}, {" .{ $x }\n~a", of(".", x, "\na")}, {" [\n~{ $x }", of("[\n", x)}, {" *\n\n~a", of("*\n\na")}, {" .a\n~ { $x }\n~b", of(".a\n ", x, "\nb")}, {" [ { $x }a\n~b", of("[ ", x, "a\nb")},
		// Lines of nothing stay so.
		{"\n~a\n\n~b", of("a\n\nb")}, {"\n~a\n\n\n\n~ b\n\n~c", of("a\n\n\n\n b\n\nc")}, {"\n~a\n\n~{ $x }\n\n\n~b", of("a\n\n", x, "\n\n\nb")}, {"\n~{ $x }\n\n~{ $x }", of(x, "\n\n", x)}, {"\n~a\n\n~  { $x }", of("a\n\n  ", x)},
	} {
		checkPattern(t, c.want, c.list)
	}
}

func TestP10_2EverySign(t *testing.T) {
	for sign := rune(' ' + 1); sign < 0x180; sign++ {
		s := string(sign)
		switch {
		case strings.Contains("{}~", s):
			continue
		case strings.Contains(".*[", s):
			checkPattern(t, " "+s+"\n~a", of(s+"\na"))
			checkPattern(t, " "+s+"\n~{ 1 }", of(s+"\n", num("1")))
			checkPattern(t, "\n~{ 1 }"+s+"\n~a", of(num("1"), s+"\na"))
		default:
			checkPattern(t, "\n~"+s+"\n~a", of(s+"\na"))
			checkPattern(t, "\n~a\n~ "+s, of("a\n "+s))
		}
		checkPattern(t, " "+s, of(s))
	}
}

func TestP10_3Comments(t *testing.T) {
	for _, c := range []struct{ text, want string }{
		{"", "#"}, {"a", "# a"}, {" ", "#  "}, {" a ", "#  a "}, {"a\nb", "# a\n# b"}, {"\n", "#\n#"}, {"a\n\nb", "# a\n#\n# b"}, {"\n\na\n \n", "#\n#\n# a\n#  \n#"}, {"#", "# #"}, {"## a\n# b", "# ## a\n# # b"},
		{"a = { b", "# a = { b"}, {"}\n.a = 1\n*[k]", "# }\n# .a = 1\n# *[k]"}, {"é漢😀\t\x00", "# é漢😀\t\x00"}, {"\t", "# \t"}, {"\u00a0", "# \u00a0"},
	} {
		for level := 1; level <= 3; level++ {
			want := strings.ReplaceAll("\n"+c.want, "\n#", "\n"+repeat("#", level))[1:] + "\n"
			checkEntry(t, want, comment(level, c.text))
		}
	}
}

func TestP10_3Messages(t *testing.T) {
	x := variable("x")
	for _, name := range []string{"a", "Z", "a-b_1", "NUMBER", "a--"} {
		e := with(message("1"), attr(name, "2"))
		e.Name = name
		checkEntry(t, name+" = 1\n    ."+name+" = 2\n", e)
		checkEntry(t, "-"+name+" = 1\n    ."+name+" = 2\n", asTerm(e))
		e.Value = nil
		checkEntry(t, name+" =\n    ."+name+" = 2\n", e)
	}
	checkEntry(t, "m = 1\n    .a = 2\n    .b = 3\n    .a = 2\n", with(message("1"), attr("a", "2"), attr("b", "3"), attr("a", "2")))
	checkEntry(t, "m =\n    1\n    2\n    .a =\n        3\n        4\n    .b = .c\n    .d =\n        { $x }\n\n         5\n        6\n", with(message("1\n2"), attr("a", "3\n4"), attr("b", ".c"), attr("d", x, "\n\n 5\n6")))
	checkEntry(t, "m =\n    .a = [b\n        c\n    .d = { $x ->\n           *[k] v\n        }\n", with(message(), attr("a", "[b\nc"), attr("d", choose(x, usual("k", "v")))))
	checkEntry(t, "-m = { -t.a ->\n       *[k] v\n    }\n    .a = { \"\" }\n", with(asTerm(message(choose(term("t", "a"), usual("k", "v")))), attr("a", str(""))))
	// Where an entry stood is not written.
	e := message("1")
	e.From, e.To = 7, 70
	checkEntry(t, "m = 1\n", e)
}

func TestP10_3Junk(t *testing.T) {
	for _, s := range []string{"", "?", "?\n", "\r\n", "a = {", "a\n\n\n  \n", "# a", "\xff", repeat("é\n", 1000)} {
		if got := serial.Entry(junk(s)); got != s {
			t.Errorf("Entry of junk: %q, want %q", got, s)
		}
		want := "m = 1\n" + s + s + "# a\n"
		if got := serial.Resource([]ast.Entry{message("1"), junk(s), junk(s), comment(1, "a")}); got != want {
			t.Errorf("Resource of junk: %q, want %q", got, want)
		}
	}
	// Junk isn't a comment, whatever else it has.
	levelled := junk("?\n")
	levelled.Level = 1
	if got := serial.Resource([]ast.Entry{comment(1, "a"), levelled, comment(1, "b")}); got != "# a\n?\n# b\n" {
		t.Errorf("Resource of junk with a level: %q", got)
	}
}

func TestP10_3Resource(t *testing.T) {
	if got := serial.Resource(nil); got != "" {
		t.Errorf("Resource of nothing: %q", got)
	}
	checkResource(t, "")
	checkResource(t, "m = 1\nm = 1\n-m = 1\n", message("1"), message("1"), asTerm(message("1")))
	checkResource(t, "# a\n\n# b\n## c\n### d\n\n### e\n# f\n", comment(1, "a"), comment(1, "b"), comment(2, "c"), comment(3, "d"), comment(3, "e"), comment(1, "f"))
	checkResource(t, "##\n\n##\n\n##\n", comment(2, ""), comment(2, ""), comment(2, ""))
	checkResource(t, "# a\nm = 1\n# b\n-m = 1\n# c\n?\n# d\n", comment(1, "a"), message("1"), comment(1, "b"), asTerm(message("1")), comment(1, "c"), junk("?\n"), comment(1, "d"))
	checkResource(t, "?\nm =\n    .a = 1\n .b = }\n\n-m = 1\n?", junk("?\n"), with(message(), attr("a", "1")), junk(" .b = }\n\n"), asTerm(message("1")), junk("?"))
}

// TestP10_4Read is of texts that are read, written, and read again.
func TestP10_4Read(t *testing.T) {
	for _, c := range []struct{ s, want string }{
		{"", ""}, {"\n  \n \n", ""}, {"a=1", "a = 1\n"}, {"\n\na  =   1  \n\n", "a = 1\n"}, {"-a=\n\n\n  1\n\n\n   2", "-a =\n    1\n\n\n     2\n"}, {"a =\n b\n", "a = b\n"}, {"a = b\n   c\n  d", "a =\n    b\n     c\n    d\n"}, {"a =\n b {\n$x\n} c", "a = b { $x } c\n"}, {"a = *b\n   c\n  d", "a = *b\n     c\n    d\n"},
		{"a =\n\n .b=1\n\n  .c =\n   2\n  3", "a =\n    .b = 1\n    .c =\n        2\n        3\n"}, {"a={F(1,\n-t . a)}", "a={F(1,\n-t . a)}"}, {"a={F(\n1,o:\n\"s\",)}", "a = { F(1, o: \"s\") }\n"}, {"a={-t()}{ -t ( ) }{F ( )}", "a = { -t }{ -t }{ F() }\n"}, {`a={"\u00e9\U01F600\""}`, "a = { \"é😀\\\"\" }\n"},
		{"a={$x ->\n[ 1 ]b\n\n*[\nk\n]\n\n c\n\n d\n\n}", "a = { $x ->\n        [1] b\n       *[k]\n            c\n\n            d\n    }\n"}, {"a={{$x ->\n*[k]{$y ->\n*[l]1\n}\n}}", "a = { { $x ->\n       *[k] { $y ->\n               *[l] 1\n            }\n    } }\n"},
		{"#\n# a\n#  \n\n#b\n#\n", "#\n# a\n#  \n#b\n#\n"}, {"# a\n\n\n# b\n\n## c\n  \n## d", "# a\n\n# b\n## c\n\n## d\n"}, {"# a\nb=1\n# c\n?\n# d", "# a\nb = 1\n# c\n?\n# d\n"},
		// Junk stays, whatever stands around it, and nothing becomes a part of it.
		{"?", "?"}, {"\n ?\n\n\na=1", " ?\n\n\na = 1\n"}, {"a=1\n\n .b=}\n.c\n", "a = 1\n .b=}\n.c\n"}, {"a=1\n .b\n  .c = 2", "a = 1\n .b\n  .c = 2"}, {"a=1\n\n\n }", "a = 1\n }"}, {"a=1\n[b", "a = 1\n[b"}, {"a=1\n *b\n c", "a = 1\n *b\n c"}, {"a={\nb=1\n", "a={\nb = 1\n"}, {"a={ $x ->\nb=1\n}\n", "a={ $x ->\nb = 1\n}\n"}, {"a={$x->\n*[k] v\n}", "a={$x->\n*[k] v\n}"}, {"a={\n#b\n\n\n#c", "a={\n#b\n\n\n#c"}, {"a={ F(\nb=1", "a={ F(\nb = 1\n"}, {"a={\n# b\n\n# c\n}", "a={\n# b\n\n# c\n}"}, {"-a=\n .b=1\nc=1", "-a=\n .b=1\nc = 1\n"}, {"a=\n\n\n-b=1", "a=\n\n\n-b = 1\n"}, {"a=1}\n\n  b=1", "a=1}\n\n  b=1"}, {"a=1\n .b={\nc=2", "a = 1\n .b={\nc = 2\n"},
		{"a = {" + repeat("{", 20) + "1" + repeat("}", 21), "a = {" + repeat("{", 20) + "1" + repeat("}", 21)}, {"a=" + repeat("{", 20) + "1" + repeat("}", 20), "a = " + repeat("{ ", 20) + "1" + repeat(" }", 20) + "\n"},
	} {
		checkResource(t, c.want, entry.Parse(c.s)...)
		checkResource(t, "### z\n"+c.want, entry.Parse("### z\n"+c.s)...)
		ended, want := c.s+"\n", c.want
		if c.s == "" || strings.HasSuffix(c.s, "\n") {
			ended = c.s
		} else if !strings.HasSuffix(want, "\n") { // the line feed is the junk's
			want += "\n"
		}
		checkResource(t, want+"z = 1\n", entry.Parse(ended+"z=1")...)
	}
}
