package expr_test

import (
	"math/rand/v2"
	"strings"
	"testing"

	"polyglot/ast"
	"polyglot/expr"
	"polyglot/text"
)

func pick[T any](random *rand.Rand, list ...T) T { return list[random.IntN(len(list))] }

// anyPattern is a pattern that may be, and isn't empty.
func anyPattern(random *rand.Rand, deep int) []ast.Elem {
	for {
		var list []ast.Elem
		for range 1 + random.IntN(5) {
			n := len(list)
			if deep > 0 && random.IntN(2) == 0 {
				list = append(list, of(anyExpr(random, deep))...)
			} else if n == 0 || list[n-1].Place != nil {
				list = append(list, of(anyText(random))...)
			}
		}
		if mayBe(list) {
			return list
		}
	}
}

func anyText(random *rand.Rand) string {
	var out strings.Builder
	for range 1 + random.IntN(6) {
		out.WriteString(pick(random, "a", "b c", ".", "*", "[", "]", "é", "\"", "-> x", " ", "  ", "\n", "\n", "\n\n\n", "\n ", "\n    ", "\t", "#", "= y"))
	}
	return out.String()
}

// anyExpr is an expression that may stand in braces.
func anyExpr(random *rand.Rand, deep int) ast.Expr {
	if deep <= 1 || random.IntN(3) > 0 {
		return anyInline(random, deep)
	}
	e := choose(anyAsked(random, deep))
	only := random.IntN(3)
	for i := range only + 1 + random.IntN(2) {
		e.Variants = append(e.Variants, ast.Variant{Key: pick(random, "one", "k", "0", "-1.50", "A-b_1"), Default: i == only, Value: anyPattern(random, deep-1)})
	}
	return e
}

func anyAsked(random *rand.Rand, deep int) ast.Expr {
	if random.IntN(4) == 0 {
		return term(pick(random, "t", "T-1_"), pick(random, "a", "B"), anyArgs(random, deep)...)
	}
	for {
		if e := anyInline(random, deep); e.Kind <= ast.Var || e.Kind == ast.Func {
			return e
		}
	}
}

func anyInline(random *rand.Rand, deep int) ast.Expr {
	kind := random.IntN(7)
	if deep <= 0 {
		kind = random.IntN(4)
	}
	switch kind {
	case 0:
		return str(pick(random, "", "s", "{ \"x\" }", "\\\n", "é\r\x00", ")]},"))
	case 1:
		return num(pick(random, "0", "-1", "12.50", "-0.0", "007"))
	case 2:
		return variable(pick(random, "x", "A-b_1"))
	case 3:
		return message(pick(random, "m", "M-1_", "NAME"), pick(random, "", "", "a", "B-2_"))
	case 4:
		return term(pick(random, "t", "T-1_"), "", anyArgs(random, deep)...)
	case 5:
		return call(pick(random, "F", "NUMBER", "G-1_2"), anyArgs(random, deep)...)
	}
	return nest(anyExpr(random, deep-1))
}

func anyArgs(random *rand.Rand, deep int) []ast.Arg {
	var list []ast.Arg
	for range random.IntN(4) {
		list = append(list, arg(anyInline(random, deep-1)))
	}
	for _, name := range []string{"o", "O", "p-1_", "F"} {
		for value := anyInline(random, 0); random.IntN(4) == 0 && value.Kind <= ast.Num; {
			list = append(list, named(name, value))
			break
		}
	}
	return list
}

// writer writes what the document lets be read, in any of the ways in which it may be written.
type writer struct {
	strings.Builder
	random *rand.Rand
}

// written is a pattern as a text, from its beginning to its end.
func written(random *rand.Rand, list []ast.Elem) string {
	w := &writer{random: random}
	w.pattern(list)
	return w.String()
}

func (w *writer) blank() {
	w.WriteString(pick(w.random, "", "", " ", "\n", "   ", "\n  ", " \n\n ", "\n\n\n"))
}

func (w *writer) spaces() { w.WriteString(pick(w.random, "", " ", "    ")) }

// each writes these, with blank between each two.
func (w *writer) each(parts ...string) {
	for i, p := range parts {
		if i > 0 {
			w.blank()
		}
		w.WriteString(p)
	}
}

func (w *writer) pattern(list []ast.Elem) {
	var texts strings.Builder
	for _, e := range list {
		texts.WriteString(e.Text)
		if e.Place != nil {
			texts.WriteString("P")
		}
	}
	lines := texts.String()
	isMarked := strings.Contains(".*[", lines[:1])
	isFlush, isLined := false, strings.Contains(lines, "\n")
	for _, l := range strings.Split(lines, "\n")[1:] {
		isFlush = isFlush || l != "" && l[0] != ' '
	}
	w.spaces()
	margin := strings.Repeat(" ", 1+w.random.IntN(6))
	if !isMarked && (isLined && !isFlush || w.random.IntN(3) == 0) {
		w.WriteString(pick(w.random, "\n", "\n  \n", "\n\n\n") + margin)
		if !isLined {
			w.spaces()
		}
	}
	for _, e := range list {
		if e.Place != nil {
			w.place(*e.Place)
		} else {
			w.lines(e.Text, margin)
		}
	}
	w.spaces()
}

func (w *writer) lines(s, margin string) {
	for i := range len(s) {
		w.WriteByte(s[i])
		if s[i] != '\n' {
			continue
		}
		if i+1 < len(s) && s[i+1] == '\n' {
			w.spaces()
		} else {
			w.WriteString(margin)
		}
	}
}

func (w *writer) place(e ast.Expr) {
	w.each("{", "")
	if e.Kind == ast.Select {
		w.inline(*e.Inner)
		w.each(pick(w.random, " ", "\n"), "->")
		w.spaces()
		w.each("\n", "")
		for _, v := range e.Variants {
			if v.Default {
				w.WriteString("*")
			}
			w.each("[", v.Key, "]")
			w.pattern(v.Value)
			w.each("\n", "")
		}
	} else {
		w.inline(e)
		w.blank()
	}
	w.WriteString("}")
}

func (w *writer) inline(e ast.Expr) {
	switch e.Kind {
	case ast.Str:
		w.WriteString(text.Quote(e.Text))
	case ast.Num:
		w.WriteString(e.Text)
	case ast.Var:
		w.WriteString("$" + e.Name)
	case ast.Nest:
		w.place(*e.Inner)
	case ast.Term:
		w.WriteString("-")
		fallthrough
	case ast.Msg, ast.Func:
		w.WriteString(e.Name)
		if e.Attr != "" {
			w.WriteString("." + e.Attr)
		}
		if e.Kind == ast.Func || len(e.Args) > 0 || e.Kind == ast.Term && w.random.IntN(3) == 0 {
			w.args(e.Args)
		}
	}
}

func (w *writer) args(list []ast.Arg) {
	w.blank()
	w.each("(", "")
	for i, a := range list {
		if i > 0 {
			w.each("", ",", "")
		}
		if a.Name != "" {
			w.each(a.Name, ":", "")
		}
		w.inline(a.Value)
	}
	if len(list) > 0 && w.random.IntN(3) == 0 {
		w.each("", ",")
	}
	w.each("", ")")
}

func TestP8_1P8_2AnyWritten(t *testing.T) {
	kinds := map[ast.Kind]int{}
	for seed := range uint64(30_000) {
		random := rand.New(rand.NewPCG(seed, 1))
		list := anyPattern(random, 3)
		ahead := pick(random, "", "a = ", "é\n{", "\n  ")
		s := ahead + written(random, list)
		whole := s + pick(random, "", "\n", "}", "\nb = {", "\n\n  .a = b", "\n   }", "\n *[k] v\n", " \n  ")
		wantEnd := len(s)
		if strings.HasPrefix(whole[len(s):], " ") {
			wantEnd++
		}
		got, end, ok := expr.Pattern(whole, len(ahead))
		if !ok || end != wantEnd || !samePatterns(got, list) {
			t.Fatalf("seed %d: Pattern(%q, %d) = %s, %d, %v; want %s, %d", seed, whole, len(ahead), show(got), end, ok, show(list), wantEnd)
		}
		for _, e := range got {
			if e.Place != nil {
				kinds[e.Place.Kind]++
			}
		}
	}
	for kind := ast.Str; kind <= ast.Select; kind++ {
		if kinds[kind] < 1000 {
			t.Errorf("just %d of kind %d", kinds[kind], kind)
		}
	}
}

func TestP8_1AnyWrittenPlaces(t *testing.T) {
	for seed := range uint64(30_000) {
		random := rand.New(rand.NewPCG(seed, 2))
		e := anyExpr(random, 4)
		w := &writer{random: random}
		w.place(e)
		s := w.String()
		got, end, ok := expr.Place(s+pick(random, "", "}", "\n", "x"), 0)
		if !ok || end != len(s) || !got.Same(e) {
			t.Fatalf("seed %d: Place(%q) = %s, %d, %v; want %s, %d", seed, s, showExpr(got), end, ok, showExpr(e), len(s))
		}
	}
}
