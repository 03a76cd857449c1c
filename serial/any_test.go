package serial_test

import (
	"math/rand/v2"
	"runtime/debug"
	"slices"
	"strconv"
	"strings"
	"testing"

	"polyglot/api"
	"polyglot/ast"
	"polyglot/entry"
	"polyglot/serial"
	"polyglot/text"
)

func pick[T any](random *rand.Rand, list ...T) T { return list[random.IntN(len(list))] }

func mayBe(list []ast.Elem) bool {
	return len(list) > 0 && ast.Entry{Type: ast.Message, Name: "m", Value: list}.Right()
}

// anyPattern is a pattern that may be, and isn't empty, with at most so many braces within each other.
func anyPattern(random *rand.Rand, deep int) []ast.Elem {
	for {
		var list []ast.Elem
		for range 1 + random.IntN(5) {
			n := len(list)
			if deep > 0 && random.IntN(2) == 0 {
				list = append(list, of(anyExpr(random, deep))...)
			} else if n == 0 || list[n-1].Place != nil {
				list = append(list, of(anyText(random))...)
			}
		}
		if mayBe(list) {
			return list
		}
	}
}

func anyText(random *rand.Rand) string {
	var out strings.Builder
	for range 1 + random.IntN(6) {
		out.WriteString(pick(random, "a", "b c", ".", "*", "[", "]", "é", "\"", "-> x", " ", "  ", "\n", "\n", "\n\n\n", "\n ", "\n    ", "\t", "#", "= y"))
	}
	return out.String()
}

// anyExpr is an expression that may stand in braces.
func anyExpr(random *rand.Rand, deep int) ast.Expr {
	if deep <= 1 || random.IntN(3) > 0 {
		return anyInline(random, deep)
	}
	var list []ast.Variant
	only := random.IntN(3)
	for i := range only + 1 + random.IntN(2) {
		list = append(list, ast.Variant{Key: pick(random, "one", "k", "0", "-1.50", "A-b_1"), Default: i == only, Value: anyPattern(random, deep-1)})
	}
	return choose(anyAsked(random, deep), list...)
}

// anyAsked is an expression of which there may be variants.
func anyAsked(random *rand.Rand, deep int) ast.Expr {
	for {
		e := anyInline(random, deep)
		switch e.Kind {
		case ast.Term:
			e.Attr = pick(random, "a", "B-2_")
			return e
		case ast.Str, ast.Num, ast.Var, ast.Func:
			return e
		}
	}
}

func anyInline(random *rand.Rand, deep int) ast.Expr {
	kind := random.IntN(7)
	if deep <= 0 {
		kind = random.IntN(4)
	}
	switch kind {
	case 0:
		return str(pick(random, "", "s", "{ \"x\" }", "\\\n", "é\r\x00", ")]},"))
	case 1:
		return num(pick(random, "0", "-1", "12.50", "-0.0", "007"))
	case 2:
		return variable(pick(random, "x", "A-b_1"))
	case 3:
		return reference(pick(random, "m", "M-1_", "NAME"), pick(random, "", "", "a", "B-2_"))
	case 4:
		return term(pick(random, "t", "T-1_"), "", anyArgs(random, deep)...)
	case 5:
		return function(pick(random, "F", "NUMBER", "G-1_2"), anyArgs(random, deep)...)
	}
	return nest(anyExpr(random, deep-1))
}

func anyArgs(random *rand.Rand, deep int) []ast.Arg {
	var list []ast.Arg
	for range random.IntN(4) {
		list = append(list, arg(anyInline(random, deep-1)))
	}
	for _, name := range []string{"o", "O", "p-1_", "F"} {
		if value := anyInline(random, 0); random.IntN(4) == 0 && value.Kind <= ast.Num {
			list = append(list, named(name, value))
		}
	}
	return list
}

// anyEntry is an entry that may be.
func anyEntry(random *rand.Rand) ast.Entry {
	if random.IntN(4) == 0 {
		return comment(1+random.IntN(3), pick(random, "", "a", " ", "\n", "a\n\n b \n", "# c", "é = {\n\n\n"))
	}
	e := ast.Entry{Type: pick(random, ast.Message, ast.Entity), Name: pick(random, "a", "Zz", "k-1_", "NUMBER")}
	for range random.IntN(4) {
		e.Attrs = append(e.Attrs, ast.Attr{Name: pick(random, "a", "B-2_", "NAME"), Value: anyPattern(random, 3)})
	}
	if e.Type == ast.Entity || len(e.Attrs) == 0 || random.IntN(3) > 0 {
		e.Value = anyPattern(random, 3)
	}
	return e
}

func TestP10_4P3AnyRight(t *testing.T) {
	kinds := map[ast.Kind]int{}
	types := map[ast.Type]int{}
	for seed := range uint64(10_000) {
		random := rand.New(rand.NewPCG(seed, 10))
		var list []ast.Entry
		for range random.IntN(6) {
			e := anyEntry(random)
			if !e.Right() {
				t.Fatalf("seed %d: none that may be: %s", seed, serial.Entry(e))
			}
			list = append(list, e)
			types[e.Type]++
			for _, v := range e.Value {
				if v.Place != nil {
					kinds[v.Place.Kind]++
				}
			}
		}
		checkPlain(t, list)
	}
	checkTypes(t, types, 1000, ast.Comment, ast.Message, ast.Entity)
	for kind := ast.Str; kind <= ast.Select; kind++ {
		if kinds[kind] < 1000 {
			t.Errorf("just %d of kind %d", kinds[kind], kind)
		}
	}
}

// TestP10_4P3AnyBytes is of any bytes: what is read, written, and read again is the same, junk too; written again it is the same text.
func TestP10_4P3AnyBytes(t *testing.T) {
	pieces := []string{"a", "-t", "a = 1", "-t = 2", "\n .b = 3", "\n .b = 3", "a =\n\n  .c=4\n", " = ", "=", "\n", "\n", "\n\n", " ", "\n  ", "# c\n", "## d", "###\n", "#", ".", "{", "}", "{ $x }", "{ $x ->\n  *[k] v\n}", "{F(1, o: 2)}", "\"s\"", "\"", "\\u000d", "\r\n", "\r", "\xff", "\xe2\x82", "é", "\t", "\x00", "*", "[", "1"}
	types := map[ast.Type]int{}
	for seed := range uint64(60_000) {
		random := rand.New(rand.NewPCG(seed, 3))
		var b []byte
		for range random.IntN(24) {
			if random.IntN(20) == 0 {
				b = append(b, byte(random.IntN(256)))
			} else {
				b = append(b, pieces[random.IntN(len(pieces))]...)
			}
		}
		s := text.Decode(b)
		checkText(t, s, types)
		once := serial.Resource(entry.Parse(s))
		if twice := serial.Resource(entry.Parse(once)); once != twice {
			t.Fatalf("%q is written as %q, and again as %q", s, once, twice)
		}
	}
	checkTypes(t, types, 1000, ast.Comment, ast.Message, ast.Entity, ast.Junk)
}

// TestP10_4P3AnyChanged is of texts that are written, and changed at a few places.
func TestP10_4P3AnyChanged(t *testing.T) {
	signs := []string{"#", "-", "a", "=", ".", "{", "}", " ", "\n", "\n\n", "1", "$", "[", "*", "(", ")", ",", ":", "\"", "\\", "->", "é", "?"}
	types := map[ast.Type]int{}
	for seed := range uint64(20_000) {
		random := rand.New(rand.NewPCG(seed, 4))
		var list []ast.Entry
		for range 1 + random.IntN(4) {
			list = append(list, anyEntry(random))
		}
		whole := []rune(serial.Resource(list))
		for range 1 + random.IntN(3) {
			from := random.IntN(len(whole) + 1)
			to := min(from+random.IntN(3), len(whole))
			ahead := string(whole[:from]) + pick(random, append(signs, "")...)
			whole = []rune(ahead + string(whole[to:]))
		}
		checkText(t, string(whole), types)
	}
	checkTypes(t, types, 1000, ast.Comment, ast.Message, ast.Entity, ast.Junk)
}

func TestP10_1Depth(t *testing.T) {
	x := variable("x")
	nested, selected := x, choose(x, usual("k", "a\nb"))
	want := "{ $x ->\n~   *[k]\n~        a\n~        b\n~}"
	for deep := 2; deep <= api.MaxDepth; deep++ {
		nested = nest(nested)
		checkEntry(t, "m = "+repeat("{ ", deep)+"$x"+repeat(" }", deep)+"\n", message(nested))
		checkEntry(t, "m = "+repeat("{ ", deep-1)+"F({ $x }) "+repeat("} ", deep-2)+"}\n", message(wrapped(function("F", arg(nest(x))), deep-2)))
		selected = choose(x, variant("1", "a\n", selected), usual("k", "c"))
		want = "{ $x ->\n~    [1]\n~        a\n~        " + strings.ReplaceAll(want, "~", "~        ") + "\n~   *[k] c\n~}"
		checkEntry(t, "m = "+strings.ReplaceAll(want, "~", repeat(" ", 4))+"\n", message(selected))
		checkEntry(t, "m =\n    .a = "+strings.ReplaceAll(want, "~", repeat(" ", 8))+"\n", with(message(), attr("a", selected)))
	}
}

// wrapped is an expression in so many braces within those of its place.
func wrapped(e ast.Expr, deep int) ast.Expr {
	for range deep {
		e = nest(e)
	}
	return e
}

// TestP10_1DeepArguments is of arguments within arguments, which no limit bounds: calls within calls would be too many for the stack.
func TestP10_1DeepArguments(t *testing.T) {
	defer debug.SetMaxStack(debug.SetMaxStack(4 << 20))
	const size = 100_000
	inner, other := variable("x"), variable("x")
	for range size {
		inner = function("F", arg(inner))
		other = term("t", "", arg(num("1")), arg(other), named("o", str("s")))
	}
	checkResource(t, "m = { "+repeat("F(", size)+"$x"+repeat(")", size)+" }\n", message(inner))
	checkResource(t, "m = { "+repeat("-t(1, ", size)+"$x"+repeat(", o: \"s\")", size)+" }\n", message(other))
}

func TestP10Long(t *testing.T) {
	const size = 100_000
	many := func(s string) string { return repeat(s, size) }
	x := variable("x")
	checkResource(t, "m = "+many("a")+"\n", message(many("a")))
	checkResource(t, "m =\n    a"+many("\n    a")+"\n", message("a"+many("\na")))
	checkResource(t, "m =\n    a"+many("\n")+"    a\n", message("a"+many("\n")+"a"))
	checkResource(t, "m = { \""+many("\\u000A")+"\" }\n", message(str(many("\n"))))
	checkResource(t, "#"+many("\n# a")+"\n", comment(1, many("\na")))
	checkResource(t, many("\n###\n")[1:], slices.Repeat([]ast.Entry{comment(3, "")}, size)...)
	checkResource(t, many("m = 1\n"), slices.Repeat([]ast.Entry{message("1")}, size)...)
	checkResource(t, "m =\n    { $x }"+many("\n    { $x }")+"\n", message(append([]any{x}, slices.Repeat([]any{"\n", x}, size)...)...))
	var keys, attrs strings.Builder
	var variants []ast.Variant
	e := message()
	for i := range size {
		n := strconv.Itoa(i)
		variants = append(variants, ast.Variant{Key: n, Default: i == 7, Value: of(n)})
		keys.WriteString("\n        [" + n + "] " + n)
		e.Attrs = append(e.Attrs, attr("a"+n, n))
		attrs.WriteString("\n    .a" + n + " = " + n)
	}
	checkResource(t, "m = { $x ->"+strings.Replace(keys.String(), " [7]", "*[7]", 1)+"\n    }\n", message(choose(x, variants...)))
	checkResource(t, "m ="+attrs.String()+"\n", e)
}

// TestP10_3Unchanged is of what is handed in, and of an answer that later calls don't change.
func TestP10_3Unchanged(t *testing.T) {
	for seed := range uint64(500) {
		random, same := rand.New(rand.NewPCG(seed, 5)), rand.New(rand.NewPCG(seed, 5))
		list := []ast.Entry{anyEntry(random), anyEntry(random), junk("?\n")}
		copied := []ast.Entry{anyEntry(same), anyEntry(same), junk("?\n")}
		list[0].From, list[2].To = 3, 9
		first := serial.Resource(list)
		serial.Entry(list[1])
		if !areSame(list, copied) || list[0].From != 3 || list[2].To != 9 {
			t.Fatalf("seed %d: changed what was handed in", seed)
		}
		if again := serial.Resource(list); again != first || again != plainResource(copied) {
			t.Fatalf("seed %d: %s, and then %s", seed, shorten(first), shorten(again))
		}
	}
}
