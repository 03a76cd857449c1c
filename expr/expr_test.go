package expr_test

import (
	"math"
	"runtime/debug"
	"strconv"
	"strings"
	"testing"

	"polyglot/api"
	"polyglot/ast"
	"polyglot/expr"
)

// of is a pattern of texts and of places.
func of(parts ...any) []ast.Elem {
	var list []ast.Elem
	for _, p := range parts {
		switch x := p.(type) {
		case string:
			list = append(list, ast.Elem{Text: x})
		case ast.Expr:
			list = append(list, ast.Elem{Place: &x})
		}
	}
	return list
}

func str(text string) ast.Expr { return ast.Expr{Kind: ast.Str, Text: text} }

func num(text string) ast.Expr { return ast.Expr{Kind: ast.Num, Text: text} }

func variable(name string) ast.Expr { return ast.Expr{Kind: ast.Var, Name: name} }

func message(name, attr string) ast.Expr { return ast.Expr{Kind: ast.Msg, Name: name, Attr: attr} }

func term(name, attr string, args ...ast.Arg) ast.Expr {
	return ast.Expr{Kind: ast.Term, Name: name, Attr: attr, Args: args}
}

func call(name string, args ...ast.Arg) ast.Expr {
	return ast.Expr{Kind: ast.Func, Name: name, Args: args}
}

func nest(e ast.Expr) ast.Expr { return ast.Expr{Kind: ast.Nest, Inner: &e} }

func arg(e ast.Expr) ast.Arg { return ast.Arg{Value: e} }

func named(name string, e ast.Expr) ast.Arg { return ast.Arg{Name: name, Value: e} }

func choose(e ast.Expr, list ...ast.Variant) ast.Expr {
	return ast.Expr{Kind: ast.Select, Inner: &e, Variants: list}
}

func option(key string, parts ...any) ast.Variant { return ast.Variant{Key: key, Value: of(parts...)} }

func fallback(key string, parts ...any) ast.Variant {
	return ast.Variant{Key: key, Default: true, Value: of(parts...)}
}

func repeat(s string, n int) string { return strings.Repeat(s, n) }

// samePatterns tells whether two patterns are the same; an attribute's pattern may be any.
func samePatterns(list, other []ast.Elem) bool {
	in := func(list []ast.Elem) ast.Entry { return ast.Entry{Attrs: []ast.Attr{{Value: list}}} }
	return in(list).Same(in(other))
}

// mayBe tells whether a pattern may be, by layer 7.
func mayBe(list []ast.Elem) bool {
	return len(list) == 0 || ast.Entry{Type: ast.Message, Name: "m", Value: list}.Right()
}

// shorten is a text, or the beginning of a long one.
func shorten(s string) string {
	if len(s) > 300 {
		return strconv.Quote(s[:300]) + " and more"
	}
	return strconv.Quote(s)
}

// show writes a pattern, for what a test says.
func show(list []ast.Elem) string {
	var out []string
	for _, e := range list {
		if e.Place == nil {
			out = append(out, strconv.Quote(e.Text))
		} else {
			out = append(out, showExpr(*e.Place))
		}
	}
	return "<" + strings.Join(out, " ") + ">"
}

func showExpr(e ast.Expr) string {
	out := []string{"kind", strconv.Itoa(int(e.Kind)), strconv.Quote(e.Text), e.Name, "." + e.Attr}
	for _, a := range e.Args {
		out = append(out, "arg", a.Name, showExpr(a.Value))
	}
	if e.Inner != nil {
		out = append(out, "inner", showExpr(*e.Inner))
	}
	for _, v := range e.Variants {
		out = append(out, "variant", v.Key, strconv.FormatBool(v.Default), show(v.Value))
	}
	return "{" + strings.Join(out, " ") + "}"
}

// checkPattern tells whether Pattern reads that from a place on.
func checkPattern(t *testing.T, s string, i int, want []ast.Elem, wantEnd int) {
	t.Helper()
	list, end, ok := expr.Pattern(s, i)
	switch {
	case !ok:
		t.Errorf("Pattern(%s, %d): none", shorten(s), i)
	case end != wantEnd:
		t.Errorf("Pattern(%s, %d) ends at %d, not at %d", shorten(s), i, end, wantEnd)
	case !samePatterns(list, want):
		t.Errorf("Pattern(%s, %d): another pattern", shorten(s), i)
		if len(s) < 1000 {
			t.Errorf("it is %s, not %s", show(list), show(want))
		}
	case !mayBe(list):
		t.Errorf("Pattern(%s, %d): it may not be", shorten(s), i)
	}
}

func checkNoPattern(t *testing.T, s string, i int) {
	t.Helper()
	if list, end, ok := expr.Pattern(s, i); ok || end != 0 || len(list) != 0 {
		t.Errorf("Pattern(%s, %d): %d elements, %d, %v", shorten(s), i, len(list), end, ok)
	}
}

// isZero tells whether nothing is in an expression.
func isZero(e ast.Expr) bool {
	return e.Kind == 0 && e.Text+e.Name+e.Attr == "" && len(e.Args)+len(e.Variants) == 0 && e.Inner == nil
}

// checkPlace tells whether all of a text is read as that place, wherever it stands.
func checkPlace(t *testing.T, s string, want ast.Expr) {
	t.Helper()
	for _, behind := range [...]string{"", "x", "}", "\n", "é {"} {
		for _, ahead := range [...]string{"", "é\n{"} {
			whole := ahead + s + behind
			e, end, ok := expr.Place(whole, len(ahead))
			switch {
			case !ok:
				t.Errorf("Place(%s, %d): none", shorten(whole), len(ahead))
			case end != len(ahead)+len(s):
				t.Errorf("Place(%s, %d) ends at %d", shorten(whole), len(ahead), end)
			case !e.Same(want):
				t.Errorf("Place(%s, %d): another one", shorten(whole), len(ahead))
				if len(whole) < 1000 {
					t.Errorf("it is %s, not %s", showExpr(e), showExpr(want))
				}
			case !mayBe(of(e)):
				t.Errorf("Place(%s, %d): it may not be", shorten(whole), len(ahead))
			}
		}
	}
	checkPattern(t, "a "+s+" b", 0, of("a ", want, " b"), len(s)+4)
	checkPattern(t, "\n  "+s, 0, of(want), len(s)+3)
}

// checkNoPlace tells whether no place is read where a text begins.
func checkNoPlace(t *testing.T, s string) {
	t.Helper()
	if e, end, ok := expr.Place(s, 0); ok || end != 0 || !isZero(e) {
		t.Errorf("Place(%s): %d, %v", shorten(s), end, ok)
	}
	if strings.HasPrefix(s, "{") {
		checkNoPattern(t, s, 0)
		checkNoPattern(t, "a "+s, 0)
		checkNoPattern(t, "a {$x}\n\n  b "+s, 0)
		checkNoPattern(t, "\n  "+s+"\n", 0)
	}
}

// checkInline tells whether a text is read as that inline expression, wherever one may stand.
func checkInline(t *testing.T, s string, want ast.Expr) {
	t.Helper()
	checkPlace(t, "{"+s+"}", want)
	checkPlace(t, "{ "+s+" }", want)
	checkPlace(t, "{\n\n  "+s+"\n \n}", want)
	checkPlace(t, "{{"+s+"}}", nest(want))
	checkPlace(t, "{F("+s+")}", call("F", arg(want)))
	checkPlace(t, "{-t( $x , "+s+" , 1 )}", term("t", "", arg(variable("x")), arg(want), arg(num("1"))))
	checkPlace(t, "{$x ->\n*[a] {"+s+"}\n}", choose(variable("x"), fallback("a", want)))
}

// checkNoInline tells whether a text is read as no inline expression.
func checkNoInline(t *testing.T, s string) {
	t.Helper()
	checkNoPlace(t, "{"+s+"}")
	checkNoPlace(t, "{ "+s+" }")
	checkNoPlace(t, "{ {"+s+"} }")
	checkNoPlace(t, "{ F("+s+") }")
	checkNoPlace(t, "{ F($x, "+s+", 1) }")
	checkNoPlace(t, "{ $x ->\n *[a] b {"+s+"}\n }")
}

func TestP8_1Examples(t *testing.T) {
	checkPattern(t, "{ F(1, o: \"s\") }!", 0, of(call("F", arg(num("1")), named("o", str("s"))), "!"), 17)
	checkPlace(t, "{ F(1, o: \"s\") }", call("F", arg(num("1")), named("o", str("s"))))
	checkPattern(t, " a {$x}\n  b\n.c", 0, of("a ", variable("x"), "\nb"), 11)
}

func TestP8_1Inline(t *testing.T) {
	for s, want := range map[string]ast.Expr{
		`""`:                       str(""),
		`"a"`:                      str("a"),
		`" {b} \\ \" é漢😀 "`:        str(` {b} \ " é漢😀 `),
		`"\u00e9\U01f600\uD800"`:   str("é😀\uFFFD"),
		`"\u000A\u000d"`:           str("\n\r"),
		"\"\t\x00\uFFFD\"":         str("\t\x00\uFFFD"),
		"0":                        num("0"),
		"-1":                       num("-1"),
		"007.50":                   num("007.50"),
		"-0.0":                     num("-0.0"),
		repeat("9", 99) + ".5":     num(repeat("9", 99) + ".5"),
		"$x":                       variable("x"),
		"$aB-c_9-":                 variable("aB-c_9-"),
		"a":                        message("a", ""),
		"A":                        message("A", ""),
		"NUMBER":                   message("NUMBER", ""),
		"a.b":                      message("a", "b"),
		"a-1_.B-2_":                message("a-1_", "B-2_"),
		"F.b":                      message("F", "b"),
		"-t":                       term("t", ""),
		"-t-1_":                    term("t-1_", ""),
		"-t()":                     term("t", ""),
		"-t \n (\n)":               term("t", ""),
		"-t(1)":                    term("t", "", arg(num("1"))),
		"-T(a: 1)":                 term("T", "", named("a", num("1"))),
		"F()":                      call("F"),
		"F-1_2( )":                 call("F-1_2"),
		"F\n\n ($x)":               call("F", arg(variable("x"))),
		"F(G(-t(m.a)))":            call("F", arg(call("G", arg(term("t", "", arg(message("m", "a"))))))),
		"{$x}":                     nest(variable("x")),
		"{ {1} }":                  nest(nest(num("1"))),
		"{$x ->\n*[a] b\n}":        nest(choose(variable("x"), fallback("a", "b"))),
		"{-t.a ->\n*[a] b\n}":      nest(choose(term("t", "a"), fallback("a", "b"))),
		"F({$x ->\n*[a] b\n})":     call("F", arg(nest(choose(variable("x"), fallback("a", "b"))))),
		"F({ \"}\" }, \"{\", {m})": call("F", arg(nest(str("}"))), arg(str("{")), arg(nest(message("m", "")))),
	} {
		checkInline(t, s, want)
	}
}

func TestP8_1NoInline(t *testing.T) {
	for _, s := range []string{"{}", "{ }", "{\n}", "{{}}", "{ -> }", "{ ->\n*[a] b\n}", "{"} {
		checkNoPlace(t, s)
	}
	for _, s := range []string{
		"\t", "\t1", "é", "?", "1a", "1 a", "a b", "a$", "1 2", "$x $y",
		`"`, `"a`, "\"a\n\"", `"\n"`, `"\u12"`, `"\"`, `"a" "b"`, `'a'`, "\u00ab",
		"-", "--1", "+1", "1.", ".5", "1.2.3", "1.a", "1e5", "- 1", "-.5", "1 .5", "\u0661",
		"$", "$ x", "$1", "$_", "$é", "$x.a", "$x()", "$-x", "$$x", "$X(1)",
		"_a", "a.", "a.1", "a .b", "a. b", "a.b.c", "a..b", "a.-b", "é", "aé",
		"-1t", "- t", "--t", "-t.", "-t.1", "-t.a", "-t .a", "-t.a()", "-t.a(1)", "-t.a.b", "-t()()", "-t(1", "-t()1", "-_", "-t().a",
		"f()", "Ff()", "fF()", "f ()", "number($x)", "F.b()", "a.b(1)", "1(2)", "\"a\"()", "{$x}()", "()", "F()()", "F((", "F(()", "F[]", "F)", "F(1", "F()1", "-F(", "F().a", "É()",
		"{", "}", "{}", "{ }", "{1", "{a b}", "{-t.a}", "{f()}", "{$x}{$y}", "{{{}}}",
		"$x ->", "$x -> \n", "$x ->\n*[a] b", "*[a] b", "[a] b", "-> ", "->\n*[a] b\n",
	} {
		checkNoInline(t, s)
		if !strings.HasPrefix(s, "-t.a") {
			checkNoPlace(t, "{ "+s+" ->\n *[a] b\n }")
		}
	}
}

func TestP8_1Args(t *testing.T) {
	x, o, p := variable("x"), named("o", num("1")), named("p", str(""))
	for s, want := range map[string][]ast.Arg{
		"":                                   nil,
		" \n\n ":                             nil,
		"$x":                                 {arg(x)},
		"$x,":                                {arg(x)},
		" \n$x\n \n,\n \n":                   {arg(x)},
		"$x,$x,$x":                           {arg(x), arg(x), arg(x)},
		"$x \n, \n$x , $x ,":                 {arg(x), arg(x), arg(x)},
		"o:1":                                {o},
		"o:1,":                               {o},
		"o\n:\n1":                            {o},
		" o : 1 , p : \"\" ":                 {o, p},
		"p:\"\",o:1":                         {p, o},
		"$x, o: 1, p: \"\", ":                {arg(x), o, p},
		"o: 1, O: 1":                         {o, named("O", num("1"))},
		"o: 1, o-: 1":                        {o, named("o-", num("1"))},
		"o: -1.50":                           {named("o", num("-1.50"))},
		"o: \"\\u0041 ,)\"":                  {named("o", str("A ,)"))},
		"o, o: 1":                            {arg(message("o", "")), o},
		"o.p, o: 1":                          {arg(message("o", "p")), o},
		"O(o: 1), o: 1":                      {arg(call("O", o)), o},
		"O, O: 1":                            {arg(message("O", "")), named("O", num("1"))},
		"a,b , C\n(\n), -d, -e(o: 1), {$x},": {arg(message("a", "")), arg(message("b", "")), arg(call("C")), arg(term("d", "")), arg(term("e", "", o)), arg(nest(x))},
		"F(F(o: 1), $x), F(o: 1), o: 1":      {arg(call("F", arg(call("F", o)), arg(x))), arg(call("F", o)), o},
		"1,-1,-t,\"\"":                       {arg(num("1")), arg(num("-1")), arg(term("t", "")), arg(str(""))},
	} {
		checkInline(t, "F("+s+")", call("F", want...))
		checkInline(t, "-t("+s+")", term("t", "", want...))
		checkInline(t, "G-1\n( F \n("+s+"))", call("G-1", arg(call("F", want...))))
		checkPlace(t, "{-t.a\n("+s+") ->\n *[k] v\n}", choose(term("t", "a", want...), fallback("k", "v")))
		checkPlace(t, "{F("+s+")->\n *[k] v\n}", choose(call("F", want...), fallback("k", "v")))
	}
}

func TestP8_1NoArgs(t *testing.T) {
	for _, s := range []string{
		",", " , ", ",$x", "$x,,", "$x,,$x", "$x $x", "$x;$x", "$x\t,$x", "$x, ,", "$x(", "(", "($x)", "$x)", "$x}", "}", "$x {$x}", "1 2", "\"a\"\"b\"",
		"o: 1, $x", "o: 1, o: 1", "$x, o: 1, p: 2, o: 3", "o: 1, $x, p: 1", "o: 1, o", "o: 1, F()", "o: 1, {$x}", "o: 1, -t", "o: 1 p: 2",
		"o:", "o: ", ": 1", "o 1", "o= 1", "o:: 1", "o: $x", "o: a", "o: -t", "o: F()", "o: {1}", "o: {\"a\"}", "o: (1)", "o: 1.", "o: -", "o: \"a", "o: \"a\nb\"", "o: o: 1", "o: 1: 2",
		"1: 1", "$o: 1", "-o: 1", "o.p: 1", "\"o\": 1", "o(): 1", "O(): 1", "{o}: 1", "é: 1", "_o: 1", "o\t: 1", "o:\t1",
		"-t.a", "$x, -t.a", "-t.a()", "-t.a(1), 1", "f()", "f(1)", "a.b()", "F(o: 1, 1)", "F(,)", "F(F(F(f())))", "F(F(-t.a))", "$", "a.", "1.", "{}", "{-t.a}",
	} {
		checkNoInline(t, "F("+s+")")
		checkNoInline(t, "-t("+s+")")
		checkNoInline(t, "F(G("+s+"))")
		checkNoPlace(t, "{-t.a("+s+") ->\n *[k] v\n}")
		checkNoPlace(t, "{F("+s+") ->\n *[k] v\n}")
		checkNoPlace(t, "{F("+s)
	}
}

func TestP8_1Select(t *testing.T) {
	x := variable("x")
	for s, want := range map[string]ast.Expr{
		"{$x ->\n*[a]b\n}":                                              choose(x, fallback("a", "b")),
		"{$x \n\n ->   \n\n  \n*[a]b\n}":                                choose(x, fallback("a", "b")),
		"{\n$x->\n  *[a]b\n}":                                           {}, // x- is the name
		"{1->\n  *[a]b\n}":                                              choose(num("1"), fallback("a", "b")),
		"{\"\"->\n  *[a]b\n}":                                           choose(str(""), fallback("a", "b")),
		"{F()->\n  *[a]b\n}":                                            choose(call("F"), fallback("a", "b")),
		"{F( {$x} ) ->\n  *[a]b\n}":                                     choose(call("F", arg(nest(x))), fallback("a", "b")),
		"{-t.a ->\n  *[a]b\n}":                                          choose(term("t", "a"), fallback("a", "b")),
		"{-t.a (b: 1) ->\n  *[a]b\n}":                                   choose(term("t", "a", named("b", num("1"))), fallback("a", "b")),
		"{$x ->\n*[ \n a \n ]b\n}":                                      choose(x, fallback("a", "b")),
		"{$x ->\n*[a]b\n[a]c\n[a]d\n}":                                  choose(x, fallback("a", "b"), option("a", "c"), option("a", "d")),
		"{$x ->\n [one] b\n\n\n *[1] c\n [-1.50] d\n\n}":                choose(x, option("one", "b"), fallback("1", "c"), option("-1.50", "d")),
		"{$x ->\n [a] b\n *[A-b_1-] c  \n  }":                           choose(x, option("a", "b"), fallback("A-b_1-", "c")),
		"{$x ->\n [a]\n  b\n *[c]\n\n   d\n      \n    e\n   f\n}":      choose(x, option("a", "b"), fallback("c", "d\n\n e\nf")),
		"{$x ->\n *[a] b {1} c\n   {2}\n}":                              choose(x, fallback("a", "b ", num("1"), " c\n", num("2"))),
		"{$x ->\n *[a] [b\n c [d] *[e]\n}":                              choose(x, fallback("a", "[b\nc [d] *[e]")),
		"{$x ->\n *[a] b\nc\n}":                                         {},
		"{$x ->\n *[a] .b\n}":                                           choose(x, fallback("a", ".b")),
		"{$x ->\n *[a] *[b] c\n}":                                       choose(x, fallback("a", "*[b] c")),
		"{$x ->\n *[a] {\"\"}\n}":                                       choose(x, fallback("a", str(""))),
		"{$x ->\n [a] {$x ->\n   *[b] c\n }\n *[d] {$x ->\n*[e]f\n}\n}": choose(x, option("a", choose(x, fallback("b", "c"))), fallback("d", choose(x, fallback("e", "f")))),
	} {
		if isZero(want) {
			checkNoPlace(t, s)
			continue
		}
		checkPlace(t, s, want)
		checkInline(t, s, nest(want))
	}
}

func TestP8_1NoSelect(t *testing.T) {
	for _, s := range []string{
		// what is asked
		"{a ->\n*[k]v\n}", "{a.b ->\n*[k]v\n}", "{-t ->\n*[k]v\n}", "{-t() ->\n*[k]v\n}", "{{$x} ->\n*[k]v\n}", "{F ->\n*[k]v\n}", "{->\n*[k]v\n}", "{f() ->\n*[k]v\n}", "{{-t.a} ->\n*[k]v\n}", "{$x $x ->\n*[k]v\n}", "{$x ->\n*[k]v\n ->\n*[k]v\n}",
		// how it goes on
		"{$x ->", "{$x ->\n", "{$x ->}", "{$x ->\n}", "{$x -> *[k]v\n}", "{$x - >\n*[k]v\n}", "{$x -\n*[k]v\n}", "{$x >\n*[k]v\n}", "{$x\n*[k]v\n}", "{$x ->\t\n*[k]v\n}", "{$x -> x\n*[k]v\n}", "{$x ->\nx\n*[k]v\n}", "{$x =>\n*[k]v\n}", "{$x ->->\n*[k]v\n}",
		// the Default
		"{$x ->\n[k]v\n}", "{$x ->\n[k]v\n[l]w\n}", "{$x ->\n*[k]v\n*[l]w\n}", "{$x ->\n*[k]v\n[l]w\n*[m]x\n}", "{$x ->\n* [k]v\n}", "{$x ->\n**[k]v\n}", "{$x ->\n*\n[k]v\n}",
		// the Key
		"{$x ->\n*[]v\n}", "{$x ->\n*[ ]v\n}", "{$x ->\n*[k v\n}", "{$x ->\n*k]v\n}", "{$x ->\n*[k l]v\n}", "{$x ->\n*[1a]v\n}", "{$x ->\n*[1.]v\n}", "{$x ->\n*[-]v\n}", "{$x ->\n*[-k]v\n}", "{$x ->\n*[$k]v\n}", "{$x ->\n*[\"k\"]v\n}", "{$x ->\n*[k.l]v\n}", "{$x ->\n*[é]v\n}", "{$x ->\n*[k\t]v\n}", "{$x ->\n*[k", "{$x ->\n*[k]", "{$x ->\n*[", "{$x ->\n*", "{$x ->\n*[[k]]v\n}", "{$x ->\n*[1 2]v\n}",
		// the Value
		"{$x ->\n*[k]\n}", "{$x ->\n*[k]  \n \n}", "{$x ->\n*[k]\n[l]v\n}", "{$x ->\n*[k]v\n[l]\n}", "{$x ->\n*[k]v\n[l]\n[m]v\n}", "{$x ->\n*[k]v}", "{$x ->\n*[k]v }", "{$x ->\n*[k]v", "{$x ->\n*[k]v\n", "{$x ->\n*[k]v\n  ", "{$x ->\n[k]v *[l]w\n}", "{$x ->\n*[k]{}\n}", "{$x ->\n*[k]v {f()}\n}", "{$x ->\n*[k]v\n {\n}", "{$x ->\n*[k]v}\n}", "{$x ->\n*[k]}\n}", "{$x ->\n*[k]v\nw\n}", "{$x ->\n*[k]v\n .w\n}", "{$x ->\n*[k]v\n\t}", "{$x ->\n*[k]{$x ->\n[l]w\n}\n}", "{$x ->\n*[k]{$x ->\n*[l]w\n}}",
	} {
		checkNoPlace(t, s)
		checkNoInline(t, s)
	}
}

// chain is an expression within an expression, and so on.
func chain(within func(ast.Expr) ast.Expr, links int, end ast.Expr) ast.Expr {
	for range links {
		end = within(end)
	}
	return end
}

func TestP8_1Depth(t *testing.T) {
	x := variable("x")
	for what, c := range map[string]struct {
		ahead, behind string
		within        func(e ast.Expr) ast.Expr
	}{
		"nests":      {"{", "}", nest},
		"with blank": {"{ \n ", "\n }", nest},
		"arguments":  {"{F($x, ", ")}", func(e ast.Expr) ast.Expr { return call("F", arg(x), arg(nest(e))) }},
		"variants":   {"{$x ->\n[b] c\n *[a] d ", "\n }", func(e ast.Expr) ast.Expr { return choose(x, option("b", "c"), fallback("a", "d ", e)) }},
		"asked":      {"{-t.b(", ") ->\n *[a] b\n}", func(e ast.Expr) ast.Expr { return choose(term("t", "b", arg(nest(e))), fallback("a", "b")) }},
	} {
		for innermost, e := range map[string]ast.Expr{
			"{$x}": x, "{F(F($x))}": call("F", arg(call("F", arg(x)))), "{$x ->\n*[a] b\n}": choose(x, fallback("a", "b")),
		} {
			for deep := 1; deep <= api.MaxDepth+3; deep++ {
				s := repeat(c.ahead, deep-1) + innermost + repeat(c.behind, deep-1)
				if deep <= api.MaxDepth {
					checkPlace(t, s, chain(c.within, deep-1, e))
				} else {
					checkNoPlace(t, s)
				}
			}
			if t.Failed() {
				t.Fatalf("%s of %s", what, innermost)
			}
			checkNoPlace(t, repeat(c.ahead, 20_000)+innermost+repeat(c.behind, 20_000))
		}
		checkNoPlace(t, repeat(c.ahead, 300_000))
	}
}

// withSmallStack runs a test where calls within calls end it long before they are as deep as what it is given.
func withSmallStack(run func()) {
	defer debug.SetMaxStack(debug.SetMaxStack(4 << 20))
	run()
}

func TestP8_1DeepArgs(t *testing.T) {
	const links = 100_000
	x := variable("x")
	withSmallStack(func() {
		for _, c := range []struct {
			ahead, behind string
			within        func(e ast.Expr) ast.Expr
		}{
			{"F(", ")", func(e ast.Expr) ast.Expr { return call("F", arg(e)) }},
			{"-t (\n$x, ", ", o: 1\n,)", func(e ast.Expr) ast.Expr { return term("t", "", arg(x), arg(e), named("o", num("1"))) }},
		} {
			deepest := "{" + repeat("{", api.MaxDepth-2) + "$x" + repeat("}", api.MaxDepth-2) + "}"
			s := "{" + repeat(c.ahead, links) + deepest + repeat(c.behind, links) + "}"
			want := chain(c.within, links, chain(nest, api.MaxDepth-1, x))
			if e, end, ok := expr.Place(s, 0); !ok || end != len(s) || !e.Same(want) || !mayBe(of(e)) {
				t.Errorf("%s: %d, %v", shorten(s), end, ok)
			}
			if list, end, ok := expr.Pattern(s, 0); !ok || end != len(s) || !samePatterns(list, of(want)) {
				t.Errorf("%s: %d, %v", shorten(s), end, ok)
			}
			for _, wrong := range []string{
				"{" + repeat(c.ahead, links) + "$x" + repeat(c.behind, links-1) + "}",
				"{" + repeat(c.ahead, links) + "$x" + repeat(c.behind, links+1) + "}",
				"{" + repeat(c.ahead, links) + "-t.a" + repeat(c.behind, links) + "}",
				"{" + repeat(c.ahead, links) + "{" + deepest + "}" + repeat(c.behind, links) + "}",
				"{" + repeat(c.ahead, links),
				repeat("{"+c.ahead, links),
			} {
				if e, end, ok := expr.Place(wrong, 0); ok || end != 0 || !isZero(e) {
					t.Errorf("%s: %d, %v", shorten(wrong), end, ok)
				}
			}
		}
	})
}

func TestP8_1Many(t *testing.T) {
	const size = 50_000
	var args, names, keys strings.Builder
	var wantArgs, wantNames []ast.Arg
	var wantKeys []ast.Variant
	for i := range size {
		n := strconv.Itoa(i)
		args.WriteString("a" + n + ",\n")
		wantArgs = append(wantArgs, arg(message("a"+n, "")))
		names.WriteString("n" + n + " : " + n + ",")
		wantNames = append(wantNames, named("n"+n, num(n)))
		keys.WriteString("\n[" + n + "] v")
		wantKeys = append(wantKeys, option(n, "v"))
	}
	checkPlace(t, "{F("+args.String()+")}", call("F", wantArgs...))
	checkPlace(t, "{F("+names.String()+")}", call("F", wantNames...))
	checkNoPlace(t, "{F("+names.String()+"n0: 1)}")
	checkPlace(t, "{$x ->"+keys.String()+"\n*[a] b\n}", choose(variable("x"), append(wantKeys, fallback("a", "b"))...))
	checkNoPlace(t, "{$x ->"+keys.String()+"\n}")
	checkPlace(t, "{"+repeat(" \n", size)+"F"+repeat(" \n", size)+"("+repeat(" \n", size)+")"+repeat(" \n", size)+"}", call("F"))
	checkPlace(t, "{\""+repeat("a", size)+"\"}", str(repeat("a", size)))
	checkNoPlace(t, "{\""+repeat("a", size)+"}")
}

func TestP8_2Lines(t *testing.T) {
	x := variable("x")
	for _, c := range []struct {
		s    string
		end  int
		want []ast.Elem
	}{
		// one line
		{"", 0, nil}, {"   ", 3, nil}, {"a", 1, of("a")}, {"  a b  ", 7, of("a b")}, {"  é漢😀  ", 13, of("é漢😀")},
		{"}", 0, nil}, {"  }", 2, nil}, {"a } b", 2, of("a")}, {"{$x}}", 4, of(x)}, {"\n", 0, nil}, {"  \n", 2, nil}, {"a \nb", 2, of("a")},
		{".a", 2, of(".a")}, {" *a", 3, of("*a")}, {"[a]", 3, of("[a]")}, {"#a = \"b\" -> (c)", 15, of("#a = \"b\" -> (c)")}, {"\ta\t", 3, of("\ta\t")}, {"\u00a0a\u2003", 6, of("\u00a0a\u2003")},
		{"{$x}", 4, of(x)}, {"  {$x}  ", 8, of(x)}, {"{$x}{$x}", 8, of(x, x)}, {"{$x} {$x} ", 10, of(x, " ", x)}, {"a{$x}b", 6, of("a", x, "b")}, {"a  {$x}  b  ", 12, of("a  ", x, "  b")},
		{"{\n$x\n} a", 8, of(x, " a")}, {"{\"\"}  ", 6, of(str(""))},
		// several lines
		{"a\n b", 4, of("a\nb")}, {"a\n b\n c", 7, of("a\nb\nc")}, {"a\n  b\n c", 8, of("a\n b\nc")}, {"a\n b\n  c", 8, of("a\nb\n c")}, {"    a\n  b\n   c", 14, of("a\nb\n c")},
		{"\n a", 3, of("a")}, {"\n  a\n    b", 10, of("a\n  b")}, {"\n    a\n  b", 10, of("a\nb")}, {"\n   a\n b\n  c", 12, of("a\nb\n c")}, {"   \n\n  \n  a", 11, of("a")},
		{"\n    a\n      b\n   c\n d", 22, of("a\n     b\n  c\nd")}, {"  \n\n  x  \n\n\n  y  \nz", 17, of("x  \n\n\ny")},
		{"a\n\n b", 5, of("a\n\nb")}, {"a\n  \n\n     \n b", 14, of("a\n\n\n\nb")}, {"a  \n b", 6, of("a  \nb")}, {"a\n b  \n  c  ", 12, of("a\nb  \n c")},
		{"a\n b\n", 4, of("a\nb")}, {"a\n\n", 1, of("a")}, {"a\n  ", 1, of("a")}, {"a\n  \n  ", 1, of("a")}, {"\n  ", 0, nil}, {"  \n  \n", 2, nil}, {"a  \n ", 3, of("a")},
		{"a\nb", 1, of("a")}, {"a\n\nb", 1, of("a")}, {"a\n \nb", 1, of("a")}, {"a\n\tb", 1, of("a")}, {"a\n \tb", 5, of("a\n\tb")}, {"a\n\u00a0b", 1, of("a")}, {"\na", 0, nil}, {"\n\n\na", 0, nil},
		{"a\n b\nc\n d", 4, of("a\nb")},
		// what no line begins with
		{"a\n .b", 1, of("a")}, {"a\n *b", 1, of("a")}, {"a\n [b", 1, of("a")}, {"a\n }b", 1, of("a")}, {"a\n\n   .b", 1, of("a")}, {"\n .b", 0, nil}, {"\n   }", 0, nil}, {"a\n b\n   [c\n d", 4, of("a\nb")},
		{"a\n ]b", 5, of("a\n]b")}, {"a\n {$x}", 7, of("a\n", x)}, {"a\n b.c*d[e", 10, of("a\nb.c*d[e")}, {"a\n #b", 5, of("a\n#b")}, {"a\n -b", 5, of("a\n-b")}, {"a\n \".\"", 6, of("a\n\".\"")}, {"a\n {\".\"}b", 9, of("a\n", str("."), "b")},
		{".a\n  b\n   c", 11, of(".a\nb\n c")}, {"*a\n   b", 7, of("*a\nb")},
		// ends within a line
		{"a\n b } c", 5, of("a\nb")}, {"a\n b  }", 6, of("a\nb")}, {"a\n {$x}  }", 9, of("a\n", x)}, {"a }\n b", 2, of("a")},
		// places amid lines
		{"{$x}  \n  {$x}", 13, of(x, "  \n", x)}, {"{$x}\n{$x}", 4, of(x)}, {"\n {$x}\n   {$x}", 14, of(x, "\n  ", x)}, {"\n   {$x}\n {$x}", 14, of(x, "\n", x)}, {"a\n  {$x}b\n   c", 14, of("a\n", x, "b\n c")},
		{"a {\n$x\n} b\n  c", 14, of("a ", x, " b\nc")}, {"a {\n\n      $x } b\n    c\n   d", 28, of("a ", x, " b\n c\nd")},
		{"a {$x ->\n*[k] v\n} b\n   c\n  d", 28, of("a ", choose(x, fallback("k", "v")), " b\n c\nd")},
		{"\n    {$x ->\n *[k]\n v\n}\n  b", 26, of(choose(x, fallback("k", "v")), "\nb")},
	} {
		checkPattern(t, c.s, 0, c.want, c.end)
		checkPattern(t, "é }{\n .*["+c.s, 10, c.want, c.end+10)
		if c.end == len(c.s) {
			for _, behind := range []string{"}", "\n", "\n\n \n", "\nx", "\n .", "\n\n  *[", "\n   }", "\n\t", "\n\n\n{", "\n ", "\n\u2003"} {
				checkPattern(t, c.s+behind, 0, c.want, c.end)
			}
		}
	}
}

func TestP8_2EveryByte(t *testing.T) {
	// In a text, and at the beginning of the next line, stands any sign but those that end it.
	for c := range 0x180 {
		sign := string(rune(c))
		switch {
		case sign == "\n" || sign == "{" || sign == "}" || sign == " " || sign == "\r":
			continue
		case strings.Contains(".*[", sign):
			checkPattern(t, "a\n "+sign+"b", 0, of("a"), 1)
		default:
			checkPattern(t, "a\n "+sign+"b", 0, of("a\n"+sign+"b"), len(sign)+4)
		}
		checkPattern(t, "a\n"+sign+"b", 0, of("a"), 1)
		checkPattern(t, sign, 0, of(sign), len(sign))
		checkPattern(t, " a"+sign+" ", 0, of("a"+sign), len(sign)+3)
	}
}

func TestP8_2LongPatterns(t *testing.T) {
	const size = 100_000
	x := variable("x")
	checkPattern(t, repeat(" ", size)+"a"+repeat(" ", size), 0, of("a"), 2*size+1)
	checkPattern(t, repeat("\n", size)+" a"+repeat("\n", size), 0, of("a"), size+2)
	checkPattern(t, "a"+repeat("\n  \n", size)+repeat(" ", size)+"b", 0, of("a"+repeat("\n", 2*size)+"b"), 5*size+2)
	checkPattern(t, "a"+repeat("\n  b", size), 0, of("a"+repeat("\nb", size)), 4*size+1)
	checkPattern(t, "\n   a"+repeat("\n  b", size)+"\n c", 0, of("a"+repeat("\n b", size)+"\nc"), 4*size+8)
	checkPattern(t, "a"+repeat("\n "+repeat(" ", 500)+"b", size/500)+"\n b", 0, of("a"+repeat("\n"+repeat(" ", 500)+"b", size/500)+"\nb"), 503*size/500+4)
	var list []ast.Elem
	for range size {
		list = append(list, of(x, "a")...)
	}
	checkPattern(t, repeat("{$x}a", size), 0, list, 5*size)
	list = nil
	for range size {
		list = append(list, of(x, "\n")...)
	}
	checkPattern(t, repeat("{$x}\n ", size)+"{$x}", 0, append(list, of(x)...), 6*size+4)
	checkNoPattern(t, repeat("{$x}\n ", size)+"{", 0)
}

func TestP8_3Pattern(t *testing.T) {
	const s = "a é {$x}\n  b\nc"
	for _, i := range []int{-1, -2, -len(s), math.MinInt, len(s) + 1, len(s) + 2, 2 * len(s), math.MaxInt} {
		checkNoPattern(t, s, i)
	}
	checkNoPattern(t, "", 1)
	checkNoPattern(t, "", -1)
	x := variable("x")
	for i, c := range map[int]struct {
		want []ast.Elem
		end  int
	}{
		0: {of("a é ", x, "\nb"), 13}, 1: {of("é ", x, "\nb"), 13}, 4: {of(x, "\nb"), 13}, 5: {of(x, "\nb"), 13},
		6: {of("$x"), 8}, 7: {of("x"), 8}, 8: {nil, 8}, 9: {of("b"), 13}, 10: {of("b"), 13}, 12: {of("b"), 13},
		13: {nil, 13}, 14: {of("c"), 15}, 15: {nil, 15},
	} {
		checkPattern(t, s, i, c.want, c.end)
	}
	// A brace that begins no place, wherever it stands; one that ends is no such brace, and what is behind the end isn't looked at.
	for _, wrong := range []string{"{", "{}", "{ $ }", "a {b", "a{$x}{", "a\n {", "a\n b {c d}", "\n\n  {", "a\n\n {\n", "{$x} {$x", "{-t.a}", "a\n {$x}\n  {f()} b"} {
		checkNoPattern(t, wrong, 0)
		checkNoPattern(t, "{"+wrong, 1)
	}
	checkPattern(t, "a\n{", 0, of("a"), 1)
	checkPattern(t, "a\n\n{ b", 0, of("a"), 1)
	checkPattern(t, "a } {", 0, of("a"), 2)
	checkPattern(t, "a\n .{", 0, of("a"), 1)
	checkPattern(t, "{a", 1, of("a"), 2)
}

func TestP8_3Place(t *testing.T) {
	const s = "é{{$x}}{1}"
	for i := -3; i < len(s)+3; i++ {
		e, end, ok := expr.Place(s, i)
		want, wantEnd := ast.Expr{}, 0
		switch i {
		case 2:
			want, wantEnd = nest(variable("x")), 8
		case 3:
			want, wantEnd = variable("x"), 7
		case 8:
			want, wantEnd = num("1"), 11
		}
		if ok != (wantEnd > 0) || end != wantEnd || !e.Same(want) {
			t.Errorf("Place(%q, %d): %s, %d, %v", s, i, showExpr(e), end, ok)
		}
	}
	for _, i := range []int{math.MinInt, -len(s), 2 * len(s), math.MaxInt} {
		if e, end, ok := expr.Place(s, i); ok || end != 0 || !isZero(e) {
			t.Errorf("Place(%q, %d): %d, %v", s, i, end, ok)
		}
	}
	for _, none := range []string{"", " {1}", "1", "}", "\n{1}", "a{1}", "[1]", "{", "{1", "{ 1 2 }"} {
		checkNoPlace(t, none)
	}
}

// An answer is new memory: what is written into one changes no other one.
func TestP8_3NewMemory(t *testing.T) {
	const s = "a {F($x, o: 1)} b\n {$x ->\n [a] b {$x}\n *[c] d\n}"
	list, _, _ := expr.Pattern(s, 0)
	again, _, _ := expr.Pattern(s, 0)
	_ = append(list[:1], list[3:]...)
	list[0].Text = "other"
	list[3].Place.Variants[0].Value[1].Place.Name = "y"
	list[3].Place.Inner.Name = "y"
	list[3].Place.Variants[1].Key = "e"
	x := variable("x")
	want := of("a ", call("F", arg(x), named("o", num("1"))), " b\n", choose(x, option("a", "b ", x), fallback("c", "d")))
	if !samePatterns(again, want) {
		t.Errorf("it became %s", show(again))
	}
	checkPattern(t, s, 0, want, len(s))
}
