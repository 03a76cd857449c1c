package ast_test

import (
	"math"
	"math/rand/v2"
	"reflect"
	"runtime/debug"
	"testing"

	"polyglot/ast"
)

// of is a pattern of texts and of places.
func of(parts ...any) []ast.Elem {
	var list []ast.Elem
	for _, p := range parts {
		switch x := p.(type) {
		case string:
			list = append(list, ast.Elem{Text: x})
		case ast.Expr:
			list = append(list, ast.Elem{Place: &x})
		}
	}
	return list
}

func str(text string) ast.Expr { return ast.Expr{Kind: ast.Str, Text: text} }

func num(text string) ast.Expr { return ast.Expr{Kind: ast.Num, Text: text} }

func variable(name string) ast.Expr { return ast.Expr{Kind: ast.Var, Name: name} }

func call(name string, args ...ast.Arg) ast.Expr {
	return ast.Expr{Kind: ast.Func, Name: name, Args: args}
}

func nest(e ast.Expr) ast.Expr { return ast.Expr{Kind: ast.Nest, Inner: &e} }

// choose is a Select of one variant.
func choose(e ast.Expr, parts ...any) ast.Expr {
	return ast.Expr{Kind: ast.Select, Inner: &e, Variants: []ast.Variant{{Key: "k", Default: true, Value: of(parts...)}}}
}

// full is an expression in which every field has something, and the same again each time.
func full() ast.Expr {
	inner := choose(variable("n"), "one", nest(num("1.0")))
	return ast.Expr{
		Kind: ast.Func, Text: "text", Name: "name", Attr: "attr",
		Args:  []ast.Arg{{Value: str("a")}, {Name: "o", Value: call("G", ast.Arg{Value: variable("v")})}},
		Inner: &inner,
		Variants: []ast.Variant{
			{Key: "few", Value: of("x", variable("y"))},
			{Key: "many", Default: true, Value: of(nest(str("z")), "\nw")},
		},
	}
}

// fullEntry is an entry in which every field has something.
func fullEntry() ast.Entry {
	return ast.Entry{
		Type: ast.Entity, Level: 2, Text: "text", Name: "name",
		Value: of("one", full(), "two"),
		Attrs: []ast.Attr{{Name: "a", Value: of("b")}, {Name: "c", Value: of(full())}},
		From:  3, To: 14,
	}
}

// changes are what makes an expression another one, at each place of full.
var changes = map[string]func(e *ast.Expr){
	"kind":               func(e *ast.Expr) { e.Kind = ast.Term },
	"no such kind":       func(e *ast.Expr) { e.Kind = -1 },
	"text":               func(e *ast.Expr) { e.Text = "Text" },
	"longer text":        func(e *ast.Expr) { e.Text += "\x00" },
	"no text":            func(e *ast.Expr) { e.Text = "" },
	"no sign":            func(e *ast.Expr) { e.Text = "\xff" },
	"name":               func(e *ast.Expr) { e.Name = "nam" },
	"attr":               func(e *ast.Expr) { e.Attr = "" },
	"name for attr":      func(e *ast.Expr) { e.Name, e.Attr = e.Attr, e.Name },
	"no args":            func(e *ast.Expr) { e.Args = nil },
	"fewer args":         func(e *ast.Expr) { e.Args = e.Args[:1] },
	"later args":         func(e *ast.Expr) { e.Args = e.Args[1:] },
	"more args":          func(e *ast.Expr) { e.Args = append(e.Args, ast.Arg{}) },
	"other order":        func(e *ast.Expr) { e.Args[0], e.Args[1] = e.Args[1], e.Args[0] },
	"arg's name":         func(e *ast.Expr) { e.Args[1].Name = "O" },
	"first arg's name":   func(e *ast.Expr) { e.Args[0].Name = "o" },
	"arg's kind":         func(e *ast.Expr) { e.Args[0].Value.Kind = ast.Num },
	"arg's text":         func(e *ast.Expr) { e.Args[0].Value.Text = "b" },
	"arg within arg":     func(e *ast.Expr) { e.Args[1].Value.Args[0].Value.Name = "w" },
	"name within arg":    func(e *ast.Expr) { e.Args[1].Value.Args[0].Name = "v" },
	"no inner":           func(e *ast.Expr) { e.Inner = nil },
	"zero inner":         func(e *ast.Expr) { e.Inner = &ast.Expr{} },
	"inner's kind":       func(e *ast.Expr) { e.Inner.Kind = ast.Nest },
	"inner's inner":      func(e *ast.Expr) { e.Inner.Inner.Name = "m" },
	"no inner's inner":   func(e *ast.Expr) { e.Inner.Inner = nil },
	"inner's variant":    func(e *ast.Expr) { e.Inner.Variants[0].Key = "K" },
	"deepest":            func(e *ast.Expr) { e.Inner.Variants[0].Value[1].Place.Inner.Text = "1" },
	"no deepest":         func(e *ast.Expr) { e.Inner.Variants[0].Value[1].Place.Inner = nil },
	"no variants":        func(e *ast.Expr) { e.Variants = nil },
	"fewer variants":     func(e *ast.Expr) { e.Variants = e.Variants[:1] },
	"more variants":      func(e *ast.Expr) { e.Variants = append(e.Variants, ast.Variant{}) },
	"key":                func(e *ast.Expr) { e.Variants[1].Key = "other" },
	"default":            func(e *ast.Expr) { e.Variants[0].Default = true },
	"no default":         func(e *ast.Expr) { e.Variants[1].Default = false },
	"no variant's value": func(e *ast.Expr) { e.Variants[0].Value = nil },
	"fewer elems":        func(e *ast.Expr) { e.Variants[0].Value = e.Variants[0].Value[:1] },
	"more elems":         func(e *ast.Expr) { e.Variants[0].Value = append(e.Variants[0].Value, ast.Elem{}) },
	"elem's text":        func(e *ast.Expr) { e.Variants[1].Value[1].Text = "\nW" },
	"text at a place":    func(e *ast.Expr) { e.Variants[0].Value[1].Text = "y" },
	"place at a text":    func(e *ast.Expr) { e.Variants[0].Value[0].Place = &ast.Expr{} },
	"no place":           func(e *ast.Expr) { e.Variants[0].Value[1].Place = nil },
	"place's name":       func(e *ast.Expr) { e.Variants[0].Value[1].Place.Name = "z" },
	"place's inner":      func(e *ast.Expr) { e.Variants[1].Value[0].Place.Inner.Text = "Z" },
}

func checkExprs(t *testing.T, what string, a, b ast.Expr, want bool) {
	t.Helper()
	if a.Same(b) != want || b.Same(a) != want {
		t.Errorf("%s: Same is %v, the other way round %v", what, a.Same(b), b.Same(a))
	}
	checkEntries(t, what, ast.Entry{Value: of(a)}, ast.Entry{Value: of(b)}, want)
	checkEntries(t, what, ast.Entry{Attrs: []ast.Attr{{Value: of("", a)}}}, ast.Entry{Attrs: []ast.Attr{{Value: of("", b)}}}, want)
}

func checkEntries(t *testing.T, what string, a, b ast.Entry, want bool) {
	t.Helper()
	if a.Same(b) != want || b.Same(a) != want {
		t.Errorf("%s: an entry's Same is %v, the other way round %v", what, a.Same(b), b.Same(a))
	}
}

func TestP7_1Exprs(t *testing.T) {
	checkExprs(t, "full", full(), full(), true)
	checkExprs(t, "zero", ast.Expr{}, ast.Expr{}, true)
	checkExprs(t, "full and zero", full(), ast.Expr{}, false)
	for what, change := range changes {
		a, b := full(), full()
		change(&a)
		checkExprs(t, what, a, full(), false)
		change(&b)
		checkExprs(t, what, a, b, true)
	}
}

func TestP7_1NilAndEmpty(t *testing.T) {
	a := ast.Expr{Inner: &ast.Expr{}, Variants: []ast.Variant{{}}}
	b := ast.Expr{
		Args:     []ast.Arg{},
		Inner:    &ast.Expr{Args: make([]ast.Arg, 0, 9), Variants: []ast.Variant{}},
		Variants: []ast.Variant{{Value: []ast.Elem{}}},
	}
	checkExprs(t, "nil and empty", a, b, true)
	checkExprs(t, "no inner", ast.Expr{}, ast.Expr{Inner: &ast.Expr{}}, false)
	checkEntries(t, "nil and empty", ast.Entry{}, ast.Entry{Value: []ast.Elem{}, Attrs: []ast.Attr{}}, true)
	checkEntries(t, "nil and empty", ast.Entry{Attrs: []ast.Attr{{}}}, ast.Entry{Attrs: []ast.Attr{{Value: []ast.Elem{}}}}, true)
	checkEntries(t, "an empty elem", ast.Entry{}, ast.Entry{Value: []ast.Elem{{}}}, false)
	checkEntries(t, "an empty attr", ast.Entry{}, ast.Entry{Attrs: []ast.Attr{{}}}, false)
	checkEntries(t, "no place", ast.Entry{Value: []ast.Elem{{}}}, ast.Entry{Value: []ast.Elem{{Place: &ast.Expr{}}}}, false)
}

func TestP7_1Entries(t *testing.T) {
	checkEntries(t, "full", fullEntry(), fullEntry(), true)
	checkEntries(t, "zero", ast.Entry{}, ast.Entry{}, true)
	checkEntries(t, "full and zero", fullEntry(), ast.Entry{}, false)
	for what, change := range map[string]func(e *ast.Entry){
		"type":           func(e *ast.Entry) { e.Type = ast.Message },
		"no such type":   func(e *ast.Entry) { e.Type = 99 },
		"level":          func(e *ast.Entry) { e.Level = 3 },
		"text":           func(e *ast.Entry) { e.Text = "" },
		"name":           func(e *ast.Entry) { e.Name = "Name" },
		"no value":       func(e *ast.Entry) { e.Value = nil },
		"fewer elems":    func(e *ast.Entry) { e.Value = e.Value[:2] },
		"later elems":    func(e *ast.Entry) { e.Value = e.Value[1:] },
		"elem's text":    func(e *ast.Entry) { e.Value[2].Text = "Two" },
		"no attrs":       func(e *ast.Entry) { e.Attrs = nil },
		"fewer attrs":    func(e *ast.Entry) { e.Attrs = e.Attrs[:1] },
		"more attrs":     func(e *ast.Entry) { e.Attrs = append(e.Attrs, ast.Attr{}) },
		"attrs' order":   func(e *ast.Entry) { e.Attrs[0], e.Attrs[1] = e.Attrs[1], e.Attrs[0] },
		"attr's name":    func(e *ast.Entry) { e.Attrs[0].Name = "A" },
		"attr's value":   func(e *ast.Entry) { e.Attrs[0].Value[0].Text = "B" },
		"attr's place":   func(e *ast.Entry) { e.Attrs[1].Value[0].Place.Inner.Inner.Name = "m" },
		"no attr's elem": func(e *ast.Entry) { e.Attrs[1].Value = nil },
	} {
		a, b := fullEntry(), fullEntry()
		change(&a)
		checkEntries(t, what, a, fullEntry(), false)
		change(&b)
		checkEntries(t, what, a, b, true)
	}
}

func TestP7_1WhereverTheyStand(t *testing.T) {
	for _, from := range [...]int{0, 3, 4, -1, math.MaxInt, math.MinInt} {
		for _, to := range [...]int{0, 14, 15, -1, math.MaxInt, math.MinInt} {
			e := fullEntry()
			e.From, e.To = from, to
			checkEntries(t, "from and to", e, fullEntry(), true)
		}
	}
}

func TestP7_1OneAndTheSame(t *testing.T) {
	x := full()
	shared := ast.Expr{Inner: &x, Variants: []ast.Variant{{Value: []ast.Elem{{Place: &x}, {Place: &x}}}}}
	y, z, w := full(), full(), full()
	apart := ast.Expr{Inner: &y, Variants: []ast.Variant{{Value: []ast.Elem{{Place: &z}, {Place: &w}}}}}
	checkExprs(t, "shared", shared, shared, true)
	checkExprs(t, "shared and apart", shared, apart, true)
	w.Text = ""
	checkExprs(t, "shared and apart", shared, apart, false)
}

// chains are the ways in which an expression may have another one within it.
var chains = map[string]func(e ast.Expr) ast.Expr{
	"args":     func(e ast.Expr) ast.Expr { return call("F", ast.Arg{Value: e}) },
	"inners":   nest,
	"variants": func(e ast.Expr) ast.Expr { return choose(variable("x"), e) },
}

func chain(within func(ast.Expr) ast.Expr, links int, end ast.Expr) ast.Expr {
	for range links {
		end = within(end)
	}
	return end
}

// withSmallStack runs a test where calls within calls end it long before they are as deep as what it is given.
func withSmallStack(run func()) {
	defer debug.SetMaxStack(debug.SetMaxStack(4 << 20))
	run()
}

func TestP7_1Deep(t *testing.T) {
	const links = 200_000
	withSmallStack(func() {
		for what, within := range chains {
			a, b := chain(within, links, str("a")), chain(within, links, str("a"))
			checkExprs(t, what, a, b, true)
			checkExprs(t, what, a, chain(within, links, str("b")), false)
			checkExprs(t, what, a, chain(within, links-1, str("a")), false)
		}
	})
}

func TestP7_1Wide(t *testing.T) {
	const size = 300_000
	wide := func(last string) ast.Expr {
		var e ast.Expr
		for range size {
			e.Args = append(e.Args, ast.Arg{Value: str("a")})
			e.Variants = append(e.Variants, ast.Variant{Key: "k", Value: of(num("1"))})
		}
		e.Args[size-1].Value.Text = last
		return e
	}
	checkExprs(t, "wide", wide("b"), wide("b"), true)
	checkExprs(t, "wide", wide("b"), wide("c"), false)
}

func TestP7_1AnyEntries(t *testing.T) {
	same := 0
	for seed := range uint64(60_000) {
		// Where few things may differ many entries are the same.
		deep := int(seed % 2)
		a, b := anyEntry(rand.New(rand.NewPCG(seed, 7)), deep), anyEntry(rand.New(rand.NewPCG(seed, 8)), deep)
		again := anyEntry(rand.New(rand.NewPCG(seed, 7)), deep)
		want := reflect.DeepEqual(a, b)
		if want {
			same++
		}
		a.From, b.To = 1, 2
		if a.Same(b) != want || !a.Same(again) {
			t.Fatalf("seed %d: Same is %v, of the same one again %v", seed, a.Same(b), a.Same(again))
		}
		again.From = 1
		if !reflect.DeepEqual(a, again) {
			t.Fatalf("seed %d: Same changed an entry", seed)
		}
	}
	if same < 100 {
		t.Errorf("just %d were the same", same)
	}
}
