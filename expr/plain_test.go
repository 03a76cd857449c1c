package expr_test

import (
	"math/rand/v2"
	"regexp"
	"strings"
	"testing"
	"unicode/utf8"

	"polyglot/ast"
	"polyglot/expr"
	"polyglot/text"
)

// What the document says, in forms and in calls within calls: what Pattern and Place are held against. A place that is told is that behind what was read; 0: there is none such.
var (
	braceForm   = regexp.MustCompile(`\A\{[ \n]*`)
	endForm     = regexp.MustCompile(`\A[ \n]*\}`)
	arrowForm   = regexp.MustCompile(`\A[ \n]*-> *\n[ \n]*`)
	variantForm = regexp.MustCompile(`\A(\*?)\[[ \n]*([a-zA-Z][a-zA-Z0-9_-]*|-?[0-9]+(?:\.[0-9]+)?)[ \n]*\]`)
	blankForm   = regexp.MustCompile(`\A[ \n]*`)
	varForm     = regexp.MustCompile(`\A\$([a-zA-Z][a-zA-Z0-9_-]*)`)
	refForm     = regexp.MustCompile(`\A(-?)([a-zA-Z][a-zA-Z0-9_-]*)(?:(\.)([a-zA-Z][a-zA-Z0-9_-]*)?)?`)
	openForm    = regexp.MustCompile(`\A[ \n]*\([ \n]*`)
	closeForm   = regexp.MustCompile(`\A\)`)
	commaForm   = regexp.MustCompile(`\A[ \n]*(,?)[ \n]*`)
	namedForm   = regexp.MustCompile(`\A([a-zA-Z][a-zA-Z0-9_-]*)[ \n]*:[ \n]*`)
	numberForm  = regexp.MustCompile(`\A-?[0-9]+(?:\.[0-9]+)?`)
	bigForm     = regexp.MustCompile(`\A[A-Z0-9_-]+\z`)
	nextForm    = regexp.MustCompile(`\A((?:\n *)*\n)( +)[^ \n.*\[}]`)
	marginForm  = regexp.MustCompile(`\n( *)[^ \n]`)
)

// placed stands for a place in a pattern's text.
const placed = '\uE000'

// find is what a form has from a place on, and the place behind.
func find(form *regexp.Regexp, s string, i int) ([]string, int) {
	m := form.FindStringSubmatch(s[i:])
	if m == nil {
		return nil, 0
	}
	return m, i + len(m[0])
}

func plainPlace(s string, i, deep int) (ast.Expr, int) {
	_, at := find(braceForm, s, i)
	if at == 0 || deep > 20 {
		return ast.Expr{}, 0
	}
	e, at := plainInline(s, at, deep)
	if at == 0 {
		return ast.Expr{}, 0
	}
	termsAttr := e.Kind == ast.Term && e.Attr != ""
	if _, end := find(endForm, s, at); end > 0 {
		if termsAttr {
			return ast.Expr{}, 0
		}
		return e, end
	}
	_, at = find(arrowForm, s, at)
	if at == 0 || e.Kind == ast.Msg || e.Kind == ast.Nest || e.Kind == ast.Term && !termsAttr {
		return ast.Expr{}, 0
	}
	return plainVariants(s, at, deep, e)
}

func plainVariants(s string, at, deep int, asked ast.Expr) (ast.Expr, int) {
	e := ast.Expr{Kind: ast.Select, Inner: &asked}
	defaults := 0
	for {
		m, behind := find(variantForm, s, at)
		if behind == 0 {
			break
		}
		list, end, ok := plainPattern(s, behind, deep)
		if !ok || len(list) == 0 || !strings.HasPrefix(s[end:], "\n") {
			return ast.Expr{}, 0
		}
		defaults += len(m[1])
		e.Variants = append(e.Variants, ast.Variant{Key: m[2], Default: m[1] == "*", Value: list})
		_, at = find(blankForm, s, end)
	}
	if !strings.HasPrefix(s[at:], "}") || defaults != 1 {
		return ast.Expr{}, 0
	}
	return e, at + 1
}

func plainInline(s string, i, deep int) (ast.Expr, int) {
	if told, size, ok := text.Unquote(s[i:]); ok {
		return ast.Expr{Kind: ast.Str, Text: told}, i + size
	}
	if m, end := find(varForm, s, i); end > 0 {
		return ast.Expr{Kind: ast.Var, Name: m[1]}, end
	}
	if e, end := plainPlace(s, i, deep+1); end > 0 {
		return ast.Expr{Kind: ast.Nest, Inner: &e}, end
	}
	if m, end := find(refForm, s, i); end > 0 {
		e := ast.Expr{Kind: ast.Msg, Name: m[2], Attr: m[4]}
		if m[1] == "-" {
			e.Kind = ast.Term
		}
		if m[3] == "." && m[4] == "" {
			return ast.Expr{}, 0
		}
		args, behind := plainArgs(s, end, deep)
		switch {
		case behind == 0:
			return e, end
		case e.Kind == ast.Term:
			e.Args = args
			return e, behind
		case e.Attr == "" && bigForm.MatchString(e.Name):
			return ast.Expr{Kind: ast.Func, Name: e.Name, Args: args}, behind
		}
		return ast.Expr{}, 0
	}
	if m, end := find(numberForm, s, i); end > 0 {
		return ast.Expr{Kind: ast.Num, Text: m[0]}, end
	}
	return ast.Expr{}, 0
}

func plainArgs(s string, i, deep int) ([]ast.Arg, int) {
	_, at := find(openForm, s, i)
	if at == 0 {
		return nil, 0
	}
	var list []ast.Arg
	for comma := ","; ; {
		if _, end := find(closeForm, s, at); end > 0 {
			return list, end
		}
		a, end := plainArg(s, at, deep)
		if end == 0 || comma == "" || a.Name == "" && a.Value.Kind == ast.Term && a.Value.Attr != "" {
			return nil, 0
		}
		for _, o := range list {
			if o.Name != "" && (a.Name == "" || a.Name == o.Name) {
				return nil, 0
			}
		}
		list = append(list, a)
		var m []string
		m, at = find(commaForm, s, end)
		comma = m[1]
	}
}

func plainArg(s string, i, deep int) (ast.Arg, int) {
	if m, at := find(namedForm, s, i); at > 0 {
		if told, size, ok := text.Unquote(s[at:]); ok {
			return ast.Arg{Name: m[1], Value: ast.Expr{Kind: ast.Str, Text: told}}, at + size
		}
		if n, end := find(numberForm, s, at); end > 0 {
			return ast.Arg{Name: m[1], Value: ast.Expr{Kind: ast.Num, Text: n[0]}}, end
		}
	}
	e, end := plainInline(s, i, deep)
	return ast.Arg{Value: e}, end
}

func plainPattern(s string, i, deep int) ([]ast.Elem, int, bool) {
	var places []ast.Expr
	raw := ""
	for i < len(s) && s[i] == ' ' {
		i++
	}
	for i < len(s) && s[i] != '}' {
		switch s[i] {
		case '{':
			e, end := plainPlace(s, i, deep+1)
			if end == 0 {
				return nil, 0, false
			}
			places = append(places, e)
			raw += string(placed)
			i = end
			continue
		case '\n':
			m, _ := find(nextForm, s, i)
			if m == nil {
				return plainElems(raw, places), i, true
			}
			raw += strings.ReplaceAll(m[1], " ", "") + m[2]
			i += len(m[1]) + len(m[2])
			continue
		}
		raw += s[i : i+1]
		i++
	}
	return plainElems(raw, places), i, true
}

// plainElems is a pattern's elements, of its lines with their margins.
func plainElems(raw string, places []ast.Expr) []ast.Elem {
	least := -1
	for _, m := range marginForm.FindAllStringSubmatch(raw, -1) {
		if least < 0 || len(m[1]) < least {
			least = len(m[1])
		}
	}
	if least > 0 {
		raw = strings.ReplaceAll(raw, "\n"+strings.Repeat(" ", least), "\n")
	}
	raw = strings.TrimRight(strings.TrimLeft(raw, " \n"), " ")
	var list []ast.Elem
	for i, part := range strings.Split(raw, string(placed)) {
		if i > 0 {
			list = append(list, ast.Elem{Place: &places[i-1]})
		}
		if part != "" {
			list = append(list, ast.Elem{Text: part})
		}
	}
	return list
}

// checkAt holds Pattern and Place against the plain form, at one place of a text; it tells which of them there are.
func checkAt(t *testing.T, s string, i int) (isPattern, isPlace bool) {
	t.Helper()
	want, wantEnd, wantOk := plainPattern(s, i, 0)
	list, end, ok := expr.Pattern(s, i)
	if ok != wantOk || end != wantEnd || !samePatterns(list, want) || !mayBe(list) {
		t.Fatalf("Pattern(%q, %d) = %s, %d, %v; want %s, %d, %v", s, i, show(list), end, ok, show(want), wantEnd, wantOk)
	}
	wantPlace, wantEnd := plainPlace(s, i, 1)
	place, end, isPlace := expr.Place(s, i)
	if isPlace != (wantEnd > 0) || end != wantEnd || !place.Same(wantPlace) || isPlace && !mayBe(of(place)) {
		t.Fatalf("Place(%q, %d) = %s, %d, %v; want %s, %d", s, i, showExpr(place), end, isPlace, showExpr(wantPlace), wantEnd)
	}
	return ok, isPlace
}

// checkAll is checkAt of all places of a text.
func checkAll(t *testing.T, s string) {
	t.Helper()
	for i := range s {
		checkAt(t, s, i)
	}
	checkAt(t, s, len(s))
}

// checkShort is checkAt of all texts of at most so many of these pieces, between two others; it tells how many patterns there are, and places.
func checkShort(t *testing.T, ahead, behind string, size int, pieces ...string) (patterns, places int) {
	t.Helper()
	all := []string{""}
	for n := 0; ; n++ {
		var longer []string
		for _, s := range all {
			isPattern, isPlace := checkAt(t, ahead+s+behind, 0)
			if isPattern {
				patterns++
			}
			if isPlace {
				places++
			}
			for _, p := range pieces {
				if n < size {
					longer = append(longer, s+p)
				}
			}
		}
		if n == size {
			return patterns, places
		}
		all = longer
	}
}

func TestP8_2AllShortPatterns(t *testing.T) {
	for _, c := range []struct {
		size   int
		pieces []string
	}{
		{7, []string{"a", " ", "\n", ".", "{1}"}},
		{8, []string{"a", "\n ", " ", "\n"}},
		{6, []string{"\n", "\n  ", "*", "[", "}", "é"}},
		{6, []string{"{ $x", "{", "}", " ", "\n", "\n  b"}},
	} {
		if patterns, _ := checkShort(t, "", "", c.size, c.pieces...); patterns < 1000 {
			t.Errorf("%q: %d patterns", c.pieces, patterns)
		}
	}
}

func TestP8_1AllShortPlaces(t *testing.T) {
	for _, c := range []struct {
		ahead, behind string
		size, least   int
		pieces        []string
	}{
		{"{", "}", 6, 200, []string{"a", "-", ".", "1", " ", "(", ")"}},
		{"{", "}", 5, 20, []string{"F", "f", "()", "$", "\"\"", "{", "}", "-"}},
		{"{F(", ")}", 5, 200, []string{"1", "o:1", "p : \"\"", ",", " ", "o", "-t.a"}},
		{"{-t(", "}", 6, 50, []string{"o", ":", "1", ",", ")", "\n"}},
		{"{F (", ") }", 6, 50, []string{"F(", ")", "o:1", ",", "$x"}},
		{"{$x ->", "}", 6, 40, []string{"\n", " ", "*", "[a]", "b", "{1}"}},
		{"{1->\n", "\n}", 6, 200, []string{"\n", "*", "[a]", "[ 1\n]", "b", " "}},
		{"{1->\n*", "b\n}", 5, 5, []string{"[", "]", "k", " ", "-", "2", "."}},
		{"{", "\n*[k]v\n}", 5, 10, []string{"-t", ".a", "()", " ", "->", "\n", "F"}},
		{"{", "->\n*[k]v\n}", 4, 10, []string{"-t", ".a", "(1)", " ", "\n", "F", "$x", "\"\"", "{1}"}},
	} {
		if _, places := checkShort(t, c.ahead, c.behind, c.size, c.pieces...); places < c.least {
			t.Errorf("%q: %d places", c.pieces, places)
		}
	}
}

// changed is a text with a few of its signs left out, put in, or put in place of others.
func changed(random *rand.Rand, s string) string {
	const signs = "{}[]()*.,:-> \n\n  \"\\$a1Fxé#\t"
	for range 1 + random.IntN(2) {
		i := random.IntN(len(s) + 1)
		for !utf8.RuneStart((s + " ")[i]) {
			i--
		}
		_, size := utf8.DecodeRuneInString(s[i:])
		n := random.IntN(utf8.RuneCountInString(signs))
		sign := string([]rune(signs)[n])
		switch random.IntN(4) {
		case 0:
			s = s[:i] + s[i+size:]
		case 1:
			s = s[:i] + sign + s[i+size:]
		case 2:
			s = s[:i]
		default:
			s = s[:i] + sign + s[i:]
		}
	}
	return s
}

func TestP8_1P8_2AnyChanged(t *testing.T) {
	const size = 40_000
	patterns := 0
	for seed := range uint64(size) {
		random := rand.New(rand.NewPCG(seed, 8))
		s := changed(random, written(random, anyPattern(random, 2)))
		if isPattern, _ := checkAt(t, s, 0); isPattern {
			patterns++
		}
		if seed%16 == 0 && len(s) < 500 {
			checkAll(t, s)
		}
	}
	if patterns < size/5 || patterns > size-size/5 {
		t.Errorf("%d of %d are patterns", patterns, size)
	}
}

func TestP8_3AnyBytes(t *testing.T) {
	pieces := []string{"{", "}", "{ ", " }", "$x", "a", "-t", ".b", "F", "(", ")", ",", ":", "1", "-1.5", "\"s\"", "\"", "\\", "->", "*", "[", "]", "[a]", " ", "\n", "\n  ", "\r\n", "\xff", "é", "\t", "{ $x ->\n  *[a] b\n}", "F(1, o: 2)"}
	for seed := range uint64(40_000) {
		random := rand.New(rand.NewPCG(seed, 3))
		var b []byte
		for range random.IntN(20) {
			b = append(b, pieces[random.IntN(len(pieces))]...)
		}
		checkAll(t, text.Decode(b))
	}
}
