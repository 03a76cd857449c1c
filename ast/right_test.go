package ast_test

import (
	"math/rand/v2"
	"reflect"
	"regexp"
	"strconv"
	"strings"
	"testing"
	"unicode/utf8"

	"polyglot/api"
	"polyglot/ast"
)

func message(parts ...any) ast.Entry {
	return ast.Entry{Type: ast.Message, Name: "m", Value: of(parts...)}
}

func arg(e ast.Expr) ast.Arg { return ast.Arg{Value: e} }

func named(name string, e ast.Expr) ast.Arg { return ast.Arg{Name: name, Value: e} }

func reference(name, attr string) ast.Expr { return ast.Expr{Kind: ast.Msg, Name: name, Attr: attr} }

func term(name, attr string, args ...ast.Arg) ast.Expr {
	return ast.Expr{Kind: ast.Term, Name: name, Attr: attr, Args: args}
}

func variants(keys ...string) []ast.Variant {
	var list []ast.Variant
	for i, k := range keys {
		list = append(list, ast.Variant{Key: k, Default: i == 0, Value: of("v")})
	}
	return list
}

// What the document says, in forms and in calls within calls: what Right is held against.
var (
	nameForm   = regexp.MustCompile(`\A[a-zA-Z][a-zA-Z0-9_-]*\z`)
	bigForm    = regexp.MustCompile(`\A[A-Z][A-Z0-9_-]*\z`)
	numberForm = regexp.MustCompile(`\A-?[0-9]+(\.[0-9]+)?\z`)

	wholeForm  = regexp.MustCompile(`(?s)\A[^ \n](.*[^ \n])?\z`)
	wrongLine  = regexp.MustCompile(`\n( +(\n|\z)| *[.*\[])`)
	markForm   = regexp.MustCompile(`\A[.*\[]`)
	filledForm = regexp.MustCompile(`\n[^\n]`)
	flushForm  = regexp.MustCompile(`\n[^ \n]`)
)

// filled names the fields of an expression that aren't empty.
func filled(e ast.Expr) string {
	out := ""
	for _, f := range []struct {
		name string
		is   bool
	}{{"Text ", e.Text != ""}, {"Name ", e.Name != ""}, {"Attr ", e.Attr != ""}, {"Args ", len(e.Args) > 0}, {"Inner ", e.Inner != nil}, {"Variants ", len(e.Variants) > 0}} {
		if f.is {
			out += f.name
		}
	}
	return out
}

func mayBeInline(e ast.Expr, deep int) bool {
	fields := filled(e)
	switch e.Kind {
	case ast.Str:
		return (fields == "" || fields == "Text ") && utf8.ValidString(e.Text)
	case ast.Num:
		return fields == "Text " && numberForm.MatchString(e.Text)
	case ast.Var:
		return fields == "Name " && nameForm.MatchString(e.Name)
	case ast.Msg:
		return (fields == "Name " || fields == "Name Attr " && nameForm.MatchString(e.Attr)) && nameForm.MatchString(e.Name)
	case ast.Term:
		return (fields == "Name " || fields == "Name Args ") && nameForm.MatchString(e.Name) && argsMayBe(e.Args, deep)
	case ast.Func:
		return (fields == "Name " || fields == "Name Args ") && bigForm.MatchString(e.Name) && argsMayBe(e.Args, deep)
	case ast.Nest:
		return fields == "Inner " && mayBeInBraces(*e.Inner, deep+1)
	}
	return false
}

func argsMayBe(list []ast.Arg, deep int) bool {
	for i, a := range list {
		if a.Name != "" && (!nameForm.MatchString(a.Name) || a.Value.Kind > ast.Num) || !mayBeInline(a.Value, deep) {
			return false
		}
		for _, o := range list[i+1:] {
			if a.Name != "" && (o.Name == "" || o.Name == a.Name) {
				return false
			}
		}
	}
	return true
}

func mayBeInBraces(e ast.Expr, deep int) bool {
	if deep > 20 || e.Kind != ast.Select {
		return deep <= 20 && mayBeInline(e, deep)
	}
	if filled(e) != "Inner Variants " {
		return false
	}
	inner := *e.Inner
	if inner.Kind == ast.Msg || inner.Kind == ast.Nest || inner.Kind == ast.Term && !nameForm.MatchString(inner.Attr) {
		return false
	}
	if inner.Kind == ast.Term {
		inner.Attr = ""
	}
	defaults := 0
	for _, v := range e.Variants {
		if v.Default {
			defaults++
		}
		if !nameForm.MatchString(v.Key) && !numberForm.MatchString(v.Key) || len(v.Value) == 0 || !patternMayBe(v.Value, deep) {
			return false
		}
	}
	return defaults == 1 && mayBeInline(inner, deep)
}

func patternMayBe(list []ast.Elem, deep int) bool {
	lines, afterText := "", false
	for _, e := range list {
		switch {
		case e.Place != nil && (e.Text != "" || !mayBeInBraces(*e.Place, deep+1)):
			return false
		case e.Place == nil && (e.Text == "" || afterText || !utf8.ValidString(e.Text) || strings.ContainsAny(e.Text, "{}\r")):
			return false
		}
		afterText = e.Place == nil
		if afterText {
			lines += e.Text
		} else {
			lines += "P"
		}
	}
	return len(list) == 0 || linesMayBe(lines)
}

func linesMayBe(s string) bool {
	return wholeForm.MatchString(s) && !wrongLine.MatchString(s) &&
		(!markForm.MatchString(s) || !filledForm.MatchString(s) || flushForm.MatchString(s))
}

func mayBe(e ast.Entry) bool {
	switch e.Type {
	case ast.Comment:
		return e.Level > 0 && e.Level < 4 && utf8.ValidString(e.Text) && !strings.Contains(e.Text, "\r") && e.Name == "" && len(e.Value)+len(e.Attrs) == 0
	case ast.Message, ast.Entity:
		for _, a := range e.Attrs {
			if !nameForm.MatchString(a.Name) || len(a.Value) == 0 || !patternMayBe(a.Value, 0) {
				return false
			}
		}
		hasEnough := len(e.Value) > 0 || e.Type == ast.Message && len(e.Attrs) > 0
		return hasEnough && e.Level == 0 && e.Text == "" && nameForm.MatchString(e.Name) && patternMayBe(e.Value, 0)
	}
	return false
}

// checkInline tells whether an expression may be, wherever one that is inline may stand.
func checkInline(t *testing.T, what string, e ast.Expr, want bool) {
	t.Helper()
	for where, m := range map[string]ast.Entry{
		"in braces":       message(e),
		"amid texts":      message("a ", e, " b"),
		"in an attribute": {Type: ast.Message, Name: "m", Attrs: []ast.Attr{{Name: "a", Value: of(e)}}},
		"in a term":       {Type: ast.Entity, Name: "m", Value: of(e)},
		"in a nest":       message(nest(e)),
		"as an argument":  message(call("F", arg(variable("x")), arg(e), named("o", num("1")))),
		"within one":      message(call("F", arg(term("t", "", arg(e))))),
		"in a variant":    message(choose(variable("x"), "a ", e)),
	} {
		if m.Right() != want {
			t.Errorf("%s %s: Right is %v", what, where, !want)
		}
	}
}

func checkBraces(t *testing.T, what string, e ast.Expr, want bool) {
	t.Helper()
	for where, m := range map[string]ast.Entry{
		"in braces":    message(e),
		"in a nest":    message("a", nest(nest(e))),
		"in a variant": message(choose(variable("x"), e)),
	} {
		if m.Right() != want {
			t.Errorf("%s %s: Right is %v", what, where, !want)
		}
	}
}

func TestP7_2Inline(t *testing.T) {
	for what, e := range map[string]ast.Expr{
		"no text":        str(""),
		"text":           str("a { $b } \"\\ é漢😀"),
		"any signs":      str("\r\n\t\x00\uFFFD\U0010FFFF \n.x"),
		"spaces":         str("  "),
		"number":         num("0"),
		"longer number":  num("-007.50"),
		"longest number": num(strings.Repeat("9", 99) + "." + strings.Repeat("0", 99)),
		"variable":       variable("x"),
		"longer name":    variable("aB-c_9"),
		"message":        reference("m", ""),
		"its attribute":  reference("m", "A-1"),
		"term":           term("t", ""),
		"term with args": term("t", "", arg(variable("x")), named("case", str("gen"))),
		"function":       call("F"),
		"longer one":     call("NUMBER-2_", arg(str("a")), arg(nest(variable("x"))), named("a", num("1")), named("A", str(""))),
		"within each":    call("F", arg(call("G", arg(term("t", "", arg(reference("m", "a")))))), arg(call("F"))),
		"empty lists":    {Kind: ast.Func, Name: "F", Args: []ast.Arg{}, Variants: []ast.Variant{}},
		"nest":           nest(variable("x")),
		"nested select":  nest(choose(num("1"), "a")),
	} {
		checkInline(t, what, e, true)
	}
}

func TestP7_2NotInline(t *testing.T) {
	for what, e := range map[string]ast.Expr{
		"no signs":         str("a\xffb"),
		"half a sign":      str("\xc3"),
		"surrogate":        str("\xed\xa0\x80"),
		"no number":        num(""),
		"point":            num("1."),
		"point ahead":      num(".5"),
		"hyphen":           num("-"),
		"plus":             num("+1"),
		"space ahead":      num(" 1"),
		"space behind":     num("1 "),
		"two numbers":      num("1.2.3"),
		"letters":          num("1e5"),
		"other digits":     num("\u0661"),
		"no name":          variable(""),
		"digit ahead":      variable("1a"),
		"dollar":           variable("$x"),
		"no such letter":   variable("é"),
		"line feed":        variable("x\n"),
		"message's name":   reference("", ""),
		"attr alone":       reference("", "a"),
		"dotted name":      reference("m.a", ""),
		"attr":             reference("m", ".a"),
		"term's name":      term("", ""),
		"hyphen ahead":     term("-t", ""),
		"term's attr":      term("t", "a"),
		"no term's attr":   term("t", "1"),
		"function's name":  call(""),
		"small name":       call("f"),
		"partly small":     call("Ff"),
		"big, but no name": call("1F"),
		"hyphen, big":      call("-F"),
		"line, big":        call("_F"),
		"no inner":         {Kind: ast.Nest},
		"wrong inner":      nest(variable("")),
		"term in a nest":   nest(term("t", "a")),
		"no such kind":     {Kind: ast.Select + 1, Name: "x"},
		"none such either": {Kind: -1, Text: "x"},
		"no fields":        {Kind: ast.Select + 1},
		"no fields either": {Kind: -1},
		"a bare Select":    {Kind: ast.Select},
	} {
		checkInline(t, what, e, false)
	}
}

func TestP7_2OtherFields(t *testing.T) {
	x := variable("x")
	for what, e := range map[string]struct {
		expr  ast.Expr
		named string
	}{
		"Str":    {str("a"), "Text"},
		"Num":    {num("1"), "Text"},
		"Var":    {variable("x"), "Name"},
		"Msg":    {reference("m", "a"), "Name Attr"},
		"Term":   {term("t", "", arg(x)), "Name Args"},
		"Func":   {call("F", arg(x)), "Name Args"},
		"Nest":   {nest(x), "Inner"},
		"Select": {choose(x, "a"), "Inner Variants"},
	} {
		checkBraces(t, what, e.expr, true)
		for field, fill := range map[string]func(e *ast.Expr){
			"Text":     func(e *ast.Expr) { e.Text = "1" },
			"Name":     func(e *ast.Expr) { e.Name = "N" },
			"Attr":     func(e *ast.Expr) { e.Attr = "a" },
			"Args":     func(e *ast.Expr) { e.Args = []ast.Arg{arg(x)} },
			"Inner":    func(e *ast.Expr) { e.Inner = &x },
			"Variants": func(e *ast.Expr) { e.Variants = variants("a") },
		} {
			if !strings.Contains(e.named, field) {
				wrong := e.expr
				fill(&wrong)
				checkBraces(t, what+" with "+field, wrong, false)
			}
		}
	}
}

func TestP7_2Args(t *testing.T) {
	x, y := arg(variable("x")), arg(str(""))
	o, p := named("o", num("1")), named("p", str(""))
	for what, c := range map[string]struct {
		args []ast.Arg
		want bool
	}{
		"none":                  {nil, true},
		"without names":         {[]ast.Arg{x, y, x, x}, true},
		"with names":            {[]ast.Arg{p, o}, true},
		"both":                  {[]ast.Arg{x, y, o, p}, true},
		"another case":          {[]ast.Arg{o, named("O", str("s"))}, true},
		"variable's name":       {[]ast.Arg{x, named("x", str("s"))}, true},
		"names first":           {[]ast.Arg{o, x}, false},
		"amid names":            {[]ast.Arg{o, x, p}, false},
		"a name twice":          {[]ast.Arg{o, o}, false},
		"twice, others between": {[]ast.Arg{x, o, p, named("o", str("s"))}, false},
		"no name":               {[]ast.Arg{named("1", str("s"))}, false},
		"a space":               {[]ast.Arg{named(" ", str("s"))}, false},
		"dollar":                {[]ast.Arg{named("$o", str("s"))}, false},
		"a Var by name":         {[]ast.Arg{named("o", variable("x"))}, false},
		"a Msg by name":         {[]ast.Arg{named("o", reference("m", ""))}, false},
		"a Term by name":        {[]ast.Arg{named("o", term("t", ""))}, false},
		"a Func by name":        {[]ast.Arg{named("o", call("F"))}, false},
		"a Nest by name":        {[]ast.Arg{named("o", nest(str("s")))}, false},
		"a Select by name":      {[]ast.Arg{named("o", choose(str("s"), "a"))}, false},
		"no such kind":          {[]ast.Arg{named("o", ast.Expr{Kind: -1, Text: "1"})}, false},
		"no number":             {[]ast.Arg{named("o", num(""))}, false},
		"no signs":              {[]ast.Arg{named("o", str("\xff"))}, false},
		"another field":         {[]ast.Arg{named("o", ast.Expr{Text: "1", Name: "n"})}, false},
		"a Select":              {[]ast.Arg{arg(choose(str("s"), "a"))}, false},
		"a Term's attribute":    {[]ast.Arg{arg(term("t", "a"))}, false},
		"wrong ahead":           {[]ast.Arg{arg(variable("")), x, o}, false},
		"wrong amid":            {[]ast.Arg{x, arg(variable("")), x, o}, false},
		"wrong at last":         {[]ast.Arg{x, x, x, named("o", num("x"))}, false},
		"wrong within":          {[]ast.Arg{arg(call("F", arg(call("G", o, o))))}, false},
	} {
		checkInline(t, what, call("F", c.args...), c.want)
		checkInline(t, what, term("t", "", c.args...), c.want)
		checkBraces(t, what, choose(call("F", c.args...), "a"), c.want)
		checkBraces(t, what, choose(term("t", "b", c.args...), "a"), c.want)
	}
}

func TestP7_2ManyNames(t *testing.T) {
	const size = 200_000
	var list []ast.Arg
	for i := range size {
		list = append(list, named("n"+strconv.Itoa(i), num("1")))
	}
	if !message(call("F", list...)).Right() {
		t.Error("many names")
	}
	list[size-1].Name = "n0"
	if message(call("F", list...)).Right() {
		t.Error("many names, and the first one again")
	}
}

func TestP7_2Asked(t *testing.T) {
	for what, c := range map[string]struct {
		inner ast.Expr
		want  bool
	}{
		"Str":                        {str(""), true},
		"Num":                        {num("1"), true},
		"Var":                        {variable("x"), true},
		"Func":                       {call("F", arg(nest(variable("x")))), true},
		"Term's attribute":           {term("t", "a"), true},
		"with args":                  {term("t", "a", arg(variable("x")), named("o", num("1"))), true},
		"Term":                       {term("t", ""), false},
		"no name":                    {term("", "a"), false},
		"no attribute":               {term("t", "1"), false},
		"Term's text":                {ast.Expr{Kind: ast.Term, Text: "t", Name: "t", Attr: "a"}, false},
		"Term's wrong args":          {term("t", "a", named("o", variable("x"))), false},
		"Msg":                        {reference("m", ""), false},
		"Msg's attribute":            {reference("m", "a"), false},
		"Nest":                       {nest(variable("x")), false},
		"Select":                     {choose(variable("x"), "a"), false},
		"wrong Str":                  {str("\xff"), false},
		"wrong Num":                  {num("x"), false},
		"wrong Var":                  {variable("1"), false},
		"wrong Func":                 {call("f"), false},
		"Var's attribute":            {ast.Expr{Kind: ast.Var, Name: "x", Attr: "a"}, false},
		"Func's attribute":           {ast.Expr{Kind: ast.Func, Name: "F", Attr: "a"}, false},
		"no such kind":               {ast.Expr{Kind: 8, Name: "x"}, false},
		"Term's attribute as an arg": {call("F", arg(term("t", "a"))), false},
	} {
		checkBraces(t, what, choose(c.inner, "a"), c.want)
	}
	checkBraces(t, "nothing asked", ast.Expr{Kind: ast.Select, Variants: variants("a")}, false)
}

func TestP7_2Variants(t *testing.T) {
	x := variable("x")
	check := func(what string, list []ast.Variant, want bool) {
		t.Helper()
		checkBraces(t, what, ast.Expr{Kind: ast.Select, Inner: &x, Variants: list}, want)
	}
	check("names and numbers", variants("one", "1", "-1.50", "A-b_1", "007"), true)
	check("one key twice", variants("a", "a", "a"), true)
	for _, key := range []string{"", " ", "1.", ".5", "-", "1a", "a b", "a.b", "é", "a\n", "*a", "[a]", "a]", "+1", "1 ", "\xff"} {
		check("key "+strconv.Quote(key), variants("one", key, "two"), false)
	}
	check("none", nil, false)
	check("none either", []ast.Variant{}, false)
	for size := 1; size <= 4; size++ {
		for set := range 1 << size {
			list, defaults := variants("a", "b", "c", "d")[:size], 0
			for i := range list {
				list[i].Default = set>>i&1 == 1
				defaults += set >> i & 1
			}
			check("defaults", list, defaults == 1)
		}
	}
	for what, value := range map[string][]ast.Elem{
		"no value": nil, "none either": {}, "an empty one": {{}}, "a space": of(" "), "a space ahead": of(" a"),
		"a line": of("a\n[b"), "two texts": of("a", "b"), "a wrong place": of(num("")), "a brace": of("a}"),
	} {
		for i := range 3 {
			list := variants("a", "b", "c")
			list[i].Value = value
			check(what, list, false)
		}
	}
	list := variants("a", "b")
	list[1].Value = of("x\n\n  y", x, choose(x, "z", nest(x)), "\nw")
	check("a value of all", list, true)
}

func TestP7_2P7_3Depth(t *testing.T) {
	x := variable("x")
	inner := func(e ast.Expr) ast.Expr { return nest(e) }
	argument := func(e ast.Expr) ast.Expr { return call("F", arg(nest(e))) }
	variant := func(e ast.Expr) ast.Expr { return choose(x, "a", e) }
	asked := func(e ast.Expr) ast.Expr { return choose(call("F", arg(nest(e))), "a") }
	attribute := func(e ast.Expr) ast.Expr { return choose(term("t", "a", arg(nest(e))), "a") }
	mixed := 0
	for what, deeper := range map[string]func(ast.Expr) ast.Expr{
		"inner": inner, "argument": argument, "variant": variant, "asked": asked, "attribute": attribute,
		"mixed": func(e ast.Expr) ast.Expr {
			mixed++
			return []func(ast.Expr) ast.Expr{inner, argument, variant, asked, attribute}[mixed%5](e)
		},
	} {
		for end, e := range map[string]ast.Expr{"Var": x, "Select": choose(x, "a"), "Func": call("F", arg(call("F", arg(x))))} {
			for deep := 1; deep <= api.MaxDepth+2; deep++ {
				// One pair of braces is the outermost place.
				m := message(chain(deeper, deep-1, e))
				if want := deep <= api.MaxDepth; m.Right() != want {
					t.Errorf("%s %d deep, in %s: Right is %v", end, deep, what, !want)
				}
				m = ast.Entry{Type: ast.Message, Name: "m", Attrs: []ast.Attr{{Name: "a", Value: of("a", chain(deeper, deep-1, e))}}}
				if want := deep <= api.MaxDepth; m.Right() != want {
					t.Errorf("%s %d deep, in %s of an attribute: Right is %v", end, deep, what, !want)
				}
			}
		}
		if message(chain(deeper, 100_000, x)).Right() {
			t.Errorf("%s: very deep", what)
		}
	}
}

func TestP7_2DeepArgs(t *testing.T) {
	const links = 200_000
	withSmallStack(func() {
		for what, within := range map[string]func(e ast.Expr) ast.Expr{
			"functions": func(e ast.Expr) ast.Expr { return call("F", arg(e)) },
			"terms":     func(e ast.Expr) ast.Expr { return term("t", "", arg(str("a")), arg(e), named("o", num("1"))) },
		} {
			deepest := chain(within, links, chain(nest, api.MaxDepth-1, variable("x")))
			if !message(deepest).Right() || !message(choose(call("F", arg(deepest)), "a")).Right() {
				t.Errorf("%s: not Right", what)
			}
			if message(nest(deepest)).Right() || message(chain(within, links, variable(""))).Right() {
				t.Errorf("%s: Right", what)
			}
		}
	})
}

// split is the pattern of a text in which each P is a place, and the texts between may be empty.
func split(s string) []ast.Elem {
	x := variable("x")
	var list []ast.Elem
	for i, part := range strings.Split(s, "P") {
		if i > 0 {
			list = append(list, ast.Elem{Place: &x})
		}
		if part != "" {
			list = append(list, ast.Elem{Text: part})
		}
	}
	return list
}

func checkPattern(t *testing.T, list []ast.Elem, want bool) {
	t.Helper()
	for _, e := range []ast.Entry{
		{Type: ast.Message, Name: "m", Value: list},
		{Type: ast.Entity, Name: "m", Value: list},
		{Type: ast.Message, Name: "m", Attrs: []ast.Attr{{Name: "a", Value: list}}},
		message(ast.Expr{Kind: ast.Select, Inner: &ast.Expr{}, Variants: []ast.Variant{{Key: "k", Value: list}, {Key: "0", Default: true, Value: of("v")}}}),
	} {
		if e.Right() != want {
			t.Fatalf("%+v: Right is %v", list, !want)
		}
	}
}

func TestP7_3Lines(t *testing.T) {
	for s, want := range map[string]bool{
		"a": true, "a b": true, "a\nb": true, "a\n b": true, "a\n\n\nb": true, "a\n\n   b": true, "a \n b": true, "é\n漢": true,
		".a\n b": false, ".a\nb": true, "*a\n b\n  c": false, "[a\n b\nc": true, "*a\n b\n\n c": false, ".a\n\nb": true, ".": true, "[a]": true, "*\nb\n c": true,
		" .a\nb": false, "a\n.b": false, "a\n *b": false, "a\n   [b": false, "a\nb.*[": true, "a\n}": false, "a\n-.b": true, "a\n#": true,
		"a\n ": false, "a\n": false, "\na": false, " a": false, "a ": false, " ": false, "\n": false, "a\n  \nb": false, "a\n\n  \nb": false,
		"P": true, "PP": true, "P\nb": true, "P\n b": true, "P\n.b": false, "a\nP": true, "a\n P": true, "a\n  P.": true, " P": false, "P ": false, "P\n": false, "\nP": false,
		"P.b\n c": true, ".P\n c": false, ".P\n P": false, ".P\nP": true, ".a\n b\nP": true, "a\n \nP": false, "P\n\nP": true, "P\n  \nP": false, "P\n P": true, "a\n \tb": true, "\ta": true, "a\t": true, "a\n\t.": true, "\u00a0a\u2003": true, "\u2028": true,
	} {
		checkPattern(t, split(s), want)
		if patternMayBe(split(s), 0) != want {
			t.Errorf("the forms are wrong of %q", s)
		}
	}
}

func TestP7_3AllShortLines(t *testing.T) {
	for _, c := range []struct {
		signs string
		size  int
	}{{"a \n.", 7}, {"a \nP[", 6}, {"P\n *", 7}} {
		every := []string{""}
		for range c.size {
			var longer []string
			for _, s := range every {
				for _, sign := range c.signs {
					longer = append(longer, s+string(sign))
				}
			}
			for _, s := range longer {
				checkPattern(t, split(s), linesMayBe(s))
			}
			every = longer
		}
	}
}

func TestP7_3EveryByte(t *testing.T) {
	for c := range 256 {
		for _, s := range []string{"?", "a?", "?a", "a?b", "a\n?", "a\n?b", "a\n  ?b", "?\nb", "?\n b", "?a\n b", "a\n?\nb", "P?P", "?P\n P", "a\xc3?b", "é?\n 漢"} {
			if c == 'P' && strings.Contains(s, "P") {
				continue
			}
			s = strings.ReplaceAll(s, "?", string([]byte{byte(c)}))
			checkPattern(t, split(s), linesMayBe(s) && utf8.ValidString(s) && !strings.ContainsAny(s, "{}\r"))
		}
	}
}

func TestP7_3Elems(t *testing.T) {
	x := variable("x")
	for what, list := range map[string][]ast.Elem{
		"an empty elem":      {{}},
		"behind a text":      {{Text: "a"}, {}},
		"ahead of a text":    {{}, {Text: "a"}},
		"behind a place":     {{Place: &x}, {}},
		"between places":     {{Place: &x}, {}, {Place: &x}},
		"two texts":          {{Text: "a"}, {Text: "b"}},
		"behind a place too": {{Place: &x}, {Text: "a"}, {Text: "b"}, {Place: &x}},
		"two line feeds":     {{Text: "a"}, {Text: "\n"}, {Text: "b"}},
		"text and place":     {{Text: "a", Place: &x}},
		"first one":          {{Text: "a", Place: &x}, {Text: "b"}},
		"last one":           {{Text: "b"}, {Text: "a", Place: &x}},
		"a wrong place":      {{Text: "a"}, {Place: &x}, {Text: "b"}, {Place: &ast.Expr{Kind: ast.Num}}},
		"a Term's attribute": of(term("t", "a")),
	} {
		for _, e := range []ast.Entry{{Type: ast.Message, Name: "m", Value: list}, {Type: ast.Message, Name: "m", Attrs: []ast.Attr{{Name: "a", Value: list}}}, {Type: ast.Entity, Name: "m", Value: list}} {
			if e.Right() {
				t.Errorf("%s: Right", what)
			}
		}
	}
	checkPattern(t, of(x, x, "a", x, "b", x), true)
	checkPattern(t, of("a", x, "\n b"), true)
	checkPattern(t, of("a\n  ", x), true)
	checkPattern(t, of("a\n  ", x, "\n ", x), true)
	checkPattern(t, of(".", x, "\n  ", x), false)
	checkPattern(t, of(".a\n ", x, "\nb"), true)
}

func TestP7_3LongLines(t *testing.T) {
	const size = 1 << 20
	for s, want := range map[string]bool{
		"a" + strings.Repeat("\n", size) + "b":         true,
		"." + strings.Repeat("\n", size) + " b":        false,
		"." + strings.Repeat("\n b", size):             false,
		"." + strings.Repeat("\n b", size) + "\nc":     true,
		"a" + strings.Repeat("\n b", size):             true,
		"a" + strings.Repeat("\n b", size) + "\n.c":    false,
		"a" + strings.Repeat(" ", size) + "b":          true,
		"a\n" + strings.Repeat(" ", size) + "b":        true,
		"a\n" + strings.Repeat(" ", size) + "\nb":      false,
		strings.Repeat(" ", size) + "a":                false,
		"a\n" + strings.Repeat("P", size/8):            true,
		strings.Repeat("P\nb", size/8) + "\n     [\nP": false,
	} {
		checkPattern(t, split(s), want)
	}
}

func TestP7_4Comments(t *testing.T) {
	comment := func(level int, text string) ast.Entry {
		return ast.Entry{Type: ast.Comment, Level: level, Text: text}
	}
	for _, text := range []string{"", "a", " a ", "\n", "a\n\nb\n", "# {}\"\\", "\x00\t\u0085", "é漢😀\uFFFD", "a = b\n  .c"} {
		for level := -1; level <= 5; level++ {
			if want := 1 <= level && level <= 3; comment(level, text).Right() != want {
				t.Errorf("level %d, %q: Right is %v", level, text, !want)
			}
		}
	}
	for _, text := range []string{"\r", "a\r\nb", "\xff", "a\xc3", "\xed\xa0\x80"} {
		if comment(1, text).Right() {
			t.Errorf("%q: Right", text)
		}
	}
	empty := comment(2, "a")
	empty.Value, empty.Attrs, empty.From, empty.To = []ast.Elem{}, []ast.Attr{}, -7, 9
	if !empty.Right() {
		t.Error("empty lists, From and To: not Right")
	}
	for what, fill := range map[string]func(e *ast.Entry){
		"a name":  func(e *ast.Entry) { e.Name = "a" },
		"a value": func(e *ast.Entry) { e.Value = of("a") },
		"attrs":   func(e *ast.Entry) { e.Attrs = []ast.Attr{{Name: "a", Value: of("a")}} },
	} {
		e := comment(1, "a")
		fill(&e)
		if e.Right() {
			t.Errorf("a comment with %s: Right", what)
		}
	}
}

func TestP7_4MessagesAndTerms(t *testing.T) {
	value, attrs := of("v"), []ast.Attr{{Name: "a", Value: of("w")}, {Name: "B-2_", Value: of(variable("x"))}, {Name: "a", Value: of("w")}}
	for what, c := range map[string]struct {
		change        func(e *ast.Entry)
		message, term bool
	}{
		"with all":          {func(*ast.Entry) {}, true, true},
		"no attrs":          {func(e *ast.Entry) { e.Attrs = nil }, true, true},
		"empty attrs":       {func(e *ast.Entry) { e.Attrs = []ast.Attr{} }, true, true},
		"no value":          {func(e *ast.Entry) { e.Value = nil }, true, false},
		"empty value":       {func(e *ast.Entry) { e.Value = []ast.Elem{} }, true, false},
		"neither":           {func(e *ast.Entry) { e.Value, e.Attrs = nil, nil }, false, false},
		"both empty":        {func(e *ast.Entry) { e.Value, e.Attrs = []ast.Elem{}, []ast.Attr{} }, false, false},
		"from and to":       {func(e *ast.Entry) { e.From, e.To = 9, -9 }, true, true},
		"a level":           {func(e *ast.Entry) { e.Level = 1 }, false, false},
		"a level below":     {func(e *ast.Entry) { e.Level = -1 }, false, false},
		"a text":            {func(e *ast.Entry) { e.Text = "a" }, false, false},
		"longer name":       {func(e *ast.Entry) { e.Name = "A-1_z" }, true, true},
		"no name":           {func(e *ast.Entry) { e.Name = "" }, false, false},
		"digit ahead":       {func(e *ast.Entry) { e.Name = "1a" }, false, false},
		"hyphen ahead":      {func(e *ast.Entry) { e.Name = "-a" }, false, false},
		"a space":           {func(e *ast.Entry) { e.Name = "a " }, false, false},
		"wrong value":       {func(e *ast.Entry) { e.Value = of("v ") }, false, false},
		"no attr's name":    {func(e *ast.Entry) { e.Attrs[1].Name = "" }, false, false},
		"point ahead":       {func(e *ast.Entry) { e.Attrs[0].Name = ".a" }, false, false},
		"no attr's value":   {func(e *ast.Entry) { e.Attrs[2].Value = nil }, false, false},
		"none either":       {func(e *ast.Entry) { e.Attrs[0].Value = []ast.Elem{} }, false, false},
		"empty elem":        {func(e *ast.Entry) { e.Attrs[0].Value = []ast.Elem{{}} }, false, false},
		"wrong attr":        {func(e *ast.Entry) { e.Attrs[2].Value = of("\n.") }, false, false},
		"attr's place":      {func(e *ast.Entry) { e.Attrs[1].Value = of(variable("")) }, false, false},
		"that and no value": {func(e *ast.Entry) { e.Value, e.Attrs[1].Value = nil, of(variable("")) }, false, false},
	} {
		for kind := ast.Comment - 1; kind <= ast.Junk+1; kind++ {
			e := ast.Entry{Type: kind, Name: "n", Value: value, Attrs: append([]ast.Attr(nil), attrs...)}
			c.change(&e)
			if want := kind == ast.Message && c.message || kind == ast.Entity && c.term; e.Right() != want {
				t.Errorf("%s, of type %d: Right is %v", what, kind, !want)
			}
		}
	}
}

func TestP7_4NothingElse(t *testing.T) {
	for _, e := range []ast.Entry{
		{}, {Type: ast.Junk}, {Type: ast.Junk, Text: "x"}, {Type: ast.Junk, Text: "a b\n", To: 4}, {Type: ast.Junk, Level: 1, Text: "x"}, {Type: 4, Level: 1}, {Type: -1, Level: 1},
	} {
		if e.Right() {
			t.Errorf("%+v: Right", e)
		}
	}
}

// pick is one of a list, mostly of its first half.
func pick[T any](random *rand.Rand, list ...T) T {
	if random.IntN(8) > 0 {
		list = list[:(len(list)+1)/2]
	}
	return list[random.IntN(len(list))]
}

func anyEntry(random *rand.Rand, deep int) ast.Entry {
	e := ast.Entry{Type: pick(random, ast.Message, ast.Entity, ast.Comment, ast.Junk)}
	if e.Type == ast.Comment {
		e.Level = random.IntN(5)
	}
	if e.Type == ast.Comment || random.IntN(50) == 0 {
		e.Text = pick(random, "a", "a\nb", "\r", "\xff")
	}
	if e.Type != ast.Comment || random.IntN(50) == 0 {
		e.Name = pick(random, "a", "b-1", "", "1")
		e.Value = anyPattern(random, deep)
		for range random.IntN(3) {
			e.Attrs = append(e.Attrs, ast.Attr{Name: pick(random, "a", "b", "", "é"), Value: anyPattern(random, deep)})
		}
	}
	return e
}

func anyPattern(random *rand.Rand, deep int) []ast.Elem {
	var list []ast.Elem
	for range random.IntN(4) {
		var e ast.Elem
		if random.IntN(2) == 0 || deep <= 0 {
			e.Text = pick(random, "a", "b\nc", "d\n e", ".f", "g", " ", "\n", "}", "")
		} else {
			place := anyExpr(random, deep)
			e.Place = &place
		}
		if n := len(list); n > 0 && e.Place == nil && list[n-1].Place == nil && random.IntN(9) > 0 {
			continue
		}
		list = append(list, e)
	}
	return list
}

func anyExpr(random *rand.Rand, deep int) ast.Expr {
	e := ast.Expr{Kind: ast.Kind(random.IntN(8))}
	if deep <= 0 {
		e.Kind = ast.Kind(random.IntN(3))
	}
	rarely := func() bool { return random.IntN(60) == 0 }
	if e.Kind == ast.Str || rarely() {
		e.Text = pick(random, "a", "", "\r", "\xff")
	}
	if e.Kind == ast.Num || rarely() {
		e.Text = pick(random, "1", "-1.5", "1.", "")
	}
	if e.Kind >= ast.Var && e.Kind <= ast.Func || rarely() {
		e.Name = pick(random, "A", "B", "C-1", "x", "", "1")
	}
	if e.Kind == ast.Msg && random.IntN(2) == 0 || rarely() {
		e.Attr = pick(random, "a", "b", "", "1")
	}
	if e.Kind == ast.Term || e.Kind == ast.Func || rarely() {
		e.Args = anyArgs(random, deep-1)
	}
	if e.Kind == ast.Nest || e.Kind == ast.Select || rarely() {
		inner := anyExpr(random, deep-1)
		if e.Kind == ast.Select && inner.Kind == ast.Term {
			inner.Attr = "a"
		}
		e.Inner = &inner
	}
	if e.Kind == ast.Select || rarely() {
		only := random.IntN(3)
		for i := range 1 + random.IntN(3) {
			e.Variants = append(e.Variants, ast.Variant{Key: pick(random, "k", "0", "", "1x"), Default: i == only || rarely(), Value: anyPattern(random, deep-1)})
		}
	}
	return e
}

func anyArgs(random *rand.Rand, deep int) []ast.Arg {
	var list []ast.Arg
	for range random.IntN(3) {
		list = append(list, arg(anyExpr(random, deep)))
	}
	for range random.IntN(3) {
		list = append(list, named(pick(random, "o", "p", "q", "r", "1", ""), anyExpr(random, 0)))
		if last := &list[len(list)-1]; last.Value.Kind == ast.Var && random.IntN(9) > 0 {
			last.Value = num("1")
		}
	}
	return list
}

func TestP7_2P7_3P7_4AnyEntries(t *testing.T) {
	right := 0
	const size = 200_000
	for seed := range uint64(size) {
		e, again := anyEntry(rand.New(rand.NewPCG(seed, 1)), 3), anyEntry(rand.New(rand.NewPCG(seed, 1)), 3)
		want := mayBe(e)
		if e.Right() != want {
			t.Fatalf("seed %d, %+v: Right is %v", seed, e, !want)
		}
		if !reflect.DeepEqual(e, again) {
			t.Fatalf("seed %d: Right changed an entry", seed)
		}
		if want {
			right++
		}
	}
	if right < size/20 || right > size-size/20 {
		t.Errorf("%d of %d are Right", right, size)
	}
}
