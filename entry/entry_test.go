package entry_test

import (
	"math"
	"slices"
	"strconv"
	"strings"
	"testing"

	"polyglot/api"
	"polyglot/ast"
	"polyglot/entry"
)

// of is a pattern of texts and of places.
func of(parts ...any) []ast.Elem {
	var list []ast.Elem
	for _, p := range parts {
		switch x := p.(type) {
		case string:
			list = append(list, ast.Elem{Text: x})
		case ast.Expr:
			list = append(list, ast.Elem{Place: &x})
		}
	}
	return list
}

func num(text string) ast.Expr { return ast.Expr{Kind: ast.Num, Text: text} }

func variable(name string) ast.Expr { return ast.Expr{Kind: ast.Var, Name: name} }

func nest(e ast.Expr) ast.Expr { return ast.Expr{Kind: ast.Nest, Inner: &e} }

// choose is a Select of one variant.
func choose(e ast.Expr, parts ...any) ast.Expr {
	return ast.Expr{Kind: ast.Select, Inner: &e, Variants: []ast.Variant{{Key: "k", Default: true, Value: of(parts...)}}}
}

// piece is a piece of a text, and the entry that it is read as; of what is passed over there is none.
type piece struct {
	s       string
	e       ast.Entry
	isEntry bool
}

func gap(s string) piece { return piece{s: s} }

func junk(s string) piece { return piece{s, ast.Entry{Type: ast.Junk, Text: s}, true} }

func comment(s string, level int, text string) piece {
	return piece{s, ast.Entry{Type: ast.Comment, Level: level, Text: text}, true}
}

func message(s, name string, value []ast.Elem, attrs ...ast.Attr) piece {
	return piece{s, ast.Entry{Type: ast.Message, Name: name, Value: value, Attrs: attrs}, true}
}

func term(s, name string, value []ast.Elem, attrs ...ast.Attr) piece {
	return piece{s, ast.Entry{Type: ast.Entity, Name: name, Value: value, Attrs: attrs}, true}
}

func attr(name string, parts ...any) ast.Attr { return ast.Attr{Name: name, Value: of(parts...)} }

func repeat(s string, n int) string { return strings.Repeat(s, n) }

// shorten is a text, or the beginning of a long one.
func shorten(s string) string {
	if len(s) > 400 {
		return strconv.Quote(s[:400]) + " and more"
	}
	return strconv.Quote(s)
}

// show tells of an entry what a test says of it.
func show(e ast.Entry) string {
	out := []string{"type", strconv.Itoa(int(e.Type)), "level", strconv.Itoa(e.Level), shorten(e.Text), e.Name, "from", strconv.Itoa(e.From), "to", strconv.Itoa(e.To), "value"}
	for _, v := range e.Value {
		out = append(out, shorten(v.Text))
	}
	for _, a := range e.Attrs {
		out = append(out, "."+a.Name)
		for _, v := range a.Value {
			out = append(out, shorten(v.Text))
		}
	}
	return strings.Join(out, " ")
}

// checkPieces tells whether a text of such pieces is read as their entries, and parted into them again.
func checkPieces(t *testing.T, pieces ...piece) {
	t.Helper()
	var s string
	var want []ast.Entry
	var texts []string
	for _, p := range pieces {
		e := p.e
		e.From = len(s)
		s += p.s
		e.To = len(s)
		if p.isEntry {
			want = append(want, e)
		}
		if p.s != "" {
			texts = append(texts, p.s)
		}
	}
	list := entry.Parse(s)
	checkSame(t, s, list, want)
	if got := entry.Texts(s, list); !slices.Equal(got, texts) {
		t.Errorf("Texts of %s: %d, want %d: %s", shorten(s), len(got), len(texts), shorten(strings.Join(got, "|")))
	}
}

// checkSame tells whether a text's entries are these, where they stand too, and whether they are right.
func checkSame(t *testing.T, s string, list, want []ast.Entry) {
	t.Helper()
	if len(list) != len(want) {
		t.Errorf("Parse(%s): %d entries, want %d", shorten(s), len(list), len(want))
		for i := range min(len(list), 20) {
			t.Errorf("%d: %s", i, show(list[i]))
		}
		return
	}
	for i, e := range list {
		if !e.Same(want[i]) || e.From != want[i].From || e.To != want[i].To {
			t.Errorf("Parse(%s): %d is %s, want %s", shorten(s), i, show(e), show(want[i]))
		}
		if e.Right() != (e.Type != ast.Junk) {
			t.Errorf("Parse(%s): %d may be: %v: %s", shorten(s), i, e.Right(), show(e))
		}
	}
}

// checkPiece is checkPieces of one alone, and of it ahead of others and behind others.
func checkPiece(t *testing.T, p piece) {
	t.Helper()
	checkPieces(t, p)
	checkPieces(t, gap(" \n\n"), p)
	checkPieces(t, message("m = 1\n", "m", of("1")), p)
	checkPieces(t, junk("é\n\n"), message("m = 1\n", "m", of("1")), gap("  \n"), p)
	if !strings.HasSuffix(p.s, "\n") {
		p.s += "\n"
		if p.e.Type == ast.Junk {
			p.e.Text = p.s
		}
		checkPieces(t, p)
	}
	checkPieces(t, p, message("m = 1", "m", of("1")))
	checkPieces(t, p, term("-t =\n\n 1\n", "t", of("1")), gap(" "))
	if p.e.Type != ast.Junk {
		checkPieces(t, p, junk("é"))
		checkPieces(t, p, gap("\n  \n"), junk(".\n"))
		checkPieces(t, p, gap("\n"), p, gap("  "))
	}
}

func TestP9_1Examples(t *testing.T) {
	checkPieces(t, message("a = 1\n", "a", of("1")), junk(".b\n"), message("c =\n  .d = 2\n", "c", nil, attr("d", "2")))
}

func TestP9_1Empty(t *testing.T) {
	for _, s := range []string{"", "\n", " ", "   ", "\n\n\n", "  \n", "\n  ", " \n\n   \n \n  "} {
		checkPieces(t, gap(s))
		if s == "" || strings.HasSuffix(s, "\n") {
			checkPieces(t, gap(s), message("a = 1", "a", of("1")))
			checkPieces(t, gap(s), comment("# a\n", 1, "a"), gap(s), comment("##\n", 2, ""), gap(s))
		}
		checkPieces(t, message("a = 1\n", "a", of("1")), gap(s))
	}
}

func TestP9_1Comments(t *testing.T) {
	for _, p := range []piece{
		comment("#", 1, ""), comment("##", 2, ""), comment("###", 3, ""), comment("#\n", 1, ""), comment("# ", 1, ""), comment("# \n", 1, ""),
		comment("# a", 1, "a"), comment("## a\n", 2, "a"), comment("### a b\n", 3, "a b"), comment("#  a  \n", 1, " a  "), comment("# # a\n", 1, "# a"), comment("## # a\n", 2, "# a"),
		comment("# a\n# b", 1, "a\nb"), comment("# a\n#\n#  b\n", 1, "a\n\n b"), comment("#\n#\n", 1, "\n"), comment("#\n# \n#", 1, "\n\n"), comment("### a\n###\n### b\n", 3, "a\n\nb"),
		comment("# é漢😀\t\x00\n", 1, "é漢😀\t\x00"), comment("# a = { b\n# }\n", 1, "a = { b\n}"), comment("# .a = 1\n", 1, ".a = 1"), comment("#    \n", 1, "   "), comment("# "+repeat("#", 9), 1, repeat("#", 9)),
	} {
		checkPiece(t, p)
	}
	checkPieces(t, comment("# a\n", 1, "a"), comment("## b\n", 2, "b"), comment("### c\n", 3, "c"), comment("# d\n# e\n", 1, "d\ne"), comment("##\n", 2, ""), comment("#", 1, ""))
	checkPieces(t, comment("# a\n", 1, "a"), gap("\n"), comment("# b\n", 1, "b"), gap("  \n"), comment("#\n", 1, ""), gap("   "))
	checkPieces(t, comment("# a\n", 1, "a"), message("b = 1\n", "b", of("1")), comment("# c\n", 1, "c"), term("-d = 1\n .e = 2\n", "d", of("1"), attr("e", "2")), comment("# f", 1, "f"))
	checkPieces(t, comment("# a\n", 1, "a"), junk(" # b\n"), comment("# c\n", 1, "c"), junk("#d\n"), comment("#\n", 1, ""), junk("#### e\n"), comment("## f\n", 2, "f"))
	checkPieces(t, comment("# a\n", 1, "a"), junk("  b\n"), junk("b"))
	checkPieces(t, message("a = 1\n", "a", of("1")), comment("# b\n", 1, "b"), junk(" .c = 2\n"))
	checkPieces(t, message("a = 1\n  # b\n", "a", of("1\n# b")))
}

func TestP9_1NoComments(t *testing.T) {
	for _, s := range []string{"#a", "##a", "###a", "####", "#### a", "##### a", "#\ta", "#\u00a0a", "#é", "#.", "#=", "\t# a", "éa # b", "####\n", repeat("#", 999), "###a # b"} {
		checkPiece(t, junk(s))
		if s[0] == '#' {
			checkPieces(t, comment("# b\n", 1, "b"), junk(s+"\n"), comment("# c", 1, "c"))
			checkPieces(t, comment("###\n", 3, ""), junk(s))
		}
	}
}

func TestP9_1Messages(t *testing.T) {
	x := variable("x")
	for _, p := range []piece{
		message("a = 1", "a", of("1")), message("a=1\n", "a", of("1")), message("a   =   b c   \n", "a", of("b c")), message("zZ-1_- =1", "zZ-1_-", of("1")), message("A= = b = c\n", "A", of("= b = c")),
		message("a =\n b\n", "a", of("b")), message("a =\n\n  b\n   c\n", "a", of("b\n c")), message("a = b\n  \n\n    c\n   d\n", "a", of("b\n\n\n c\nd")), message("a =   \n     \n b", "a", of("b")),
		message("a = {$x}\n", "a", of(x)), message("a = b { $x } c\n", "a", of("b ", x, " c")), message("a = {\n$x\n} b\n", "a", of(x, " b")), message("a =\n  {$x}\n  {$x}\n", "a", of(x, "\n", x)),
		message("a = {$x ->\n*[k] b\n}\n", "a", of(choose(x, "b"))), message("a = {$x ->\n*[k]\n b\n  c\n}\n d\n", "a", of(choose(x, "b\n c"), "\nd")),
		message("a = .b\n", "a", of(".b")), message("a = *[b]\n", "a", of("*[b]")), message("a = #b\n", "a", of("#b")), message("a = -b\n", "a", of("-b")), message("a =\tb\n", "a", of("\tb")), message("a =\t\n", "a", of("\t")), message("a = é漢😀\x00\n", "a", of("é漢😀\x00")), message("a =\u00a0\n", "a", of("\u00a0")),
		message("a = b\n c = d\n -e = f\n # g\n", "a", of("b\nc = d\n-e = f\n# g")), message("a = \"b\n", "a", of("\"b")),
		term("-a = 1", "a", of("1")), term("-a=1\n", "a", of("1")), term("-zZ-1_-   =\n\n 1\n", "zZ-1_-", of("1")), term("-A = {$x}\n b\n", "A", of(x, "\nb")), term("-a =\n -b = c\n", "a", of("-b = c")),
	} {
		checkPiece(t, p)
	}
	checkPieces(t, message("a = 1\n", "a", of("1")), message("a = 2\n", "a", of("2")), term("-a = 3\n", "a", of("3")), message("b =\n 4", "b", of("4")))
	checkPieces(t, gap("\n \n"), message("a = 1\n", "a", of("1")), gap("\n  \n\n"), message("b = 1\n", "b", of("1")), gap("\n "))
}

func TestP9_1Attributes(t *testing.T) {
	x, one := variable("x"), of("1")
	b := attr("b", "2")
	for _, c := range []struct {
		s     string // behind the message's = 1
		attrs []ast.Attr
	}{
		{"\n .b = 2", []ast.Attr{b}}, {"\n .b=2\n", []ast.Attr{b}}, {"\n          .b   =   2  \n", []ast.Attr{b}}, {"  \n\n  \n\n   .b = 2\n", []ast.Attr{b}}, {"\n .b =\n 2\n", []ast.Attr{b}}, {"\n .b =\n\n    \n       2\n", []ast.Attr{b}},
		{"\n .zZ-1_- = 2", []ast.Attr{attr("zZ-1_-", "2")}}, {"\n .b = .c = 3\n", []ast.Attr{attr("b", ".c = 3")}}, {"\n .b = c\n   d\n  e\n", []ast.Attr{attr("b", "c\n d\ne")}}, {"\n .b = {$x}\n", []ast.Attr{attr("b", x)}}, {"\n .b = {\n$x\n}\n", []ast.Attr{attr("b", x)}}, {"\n .b = {$x ->\n*[k] v\n}\n", []ast.Attr{attr("b", choose(x, "v"))}},
		{"\n .b = 2\n .c = 3\n", []ast.Attr{b, attr("c", "3")}}, {"\n   .b = 2\n\n \n .c = 3\n     .d = 4", []ast.Attr{b, attr("c", "3"), attr("d", "4")}}, {"\n .b = 2\n .b = 2\n", []ast.Attr{b, b}}, {"\n .b =\n  2\n  .b = 3\n", []ast.Attr{b, attr("b", "3")}}, {"\n .b = 2\n c\n .d = 3\n", []ast.Attr{attr("b", "2\nc"), attr("d", "3")}},
	} {
		checkPiece(t, message("a = 1"+c.s, "a", one, c.attrs...))
		checkPiece(t, message("a ="+c.s, "a", nil, c.attrs...))
		checkPiece(t, message("a =\n   1"+c.s, "a", one, c.attrs...))
		checkPiece(t, message("a = {$x}"+c.s, "a", of(x), c.attrs...))
		checkPiece(t, term("-a = 1"+c.s, "a", one, c.attrs...))
		checkPiece(t, term("-a =\n\n 1\n  3  "+c.s, "a", of("1\n 3"), c.attrs...))
		// A term has a value.
		checkPiece(t, junk("-a ="+c.s))
	}
}

func TestP9_1NoAttributes(t *testing.T) {
	for _, s := range []string{
		".b = 2", " . b = 2", " .b", " .b 2", " .b: 2", " .", " . = 2", " .1 = 2", " ._b = 2", " .-b = 2", " .é = 2", " ..b = 2", " .b.c = 2", " .b\n  = 2", "\t.b = 2", "\u00a0.b = 2", " *.b = 2", " .b\t= 2", " .b c = 2",
		" .b =", " .b =  ", " .b = \n\n  ", " .b = }", " .b = 2 }", " .b = 2\n  3 } 4", " .b = {", " .b = {}", " .b = { $x", " .b = 2\n  { 3", " .b = {f()}", " .b = 2 {", " .b = {-t.c}", " [b = 2", " *b = 2", " } .b = 2", "}", " }", " .b = {2}}",
	} {
		for _, behind := range []string{"", "\n", "\n .c = 3", "\n\n  .c = 3\n", "\n  \n"} {
			wrong := s + behind
			checkPieces(t, message("a = 1\n", "a", of("1")), junk(wrong))
			checkPieces(t, message("a = 1  \n", "a", of("1")), gap("\n  \n"), junk(wrong))
			checkPieces(t, term("-a =\n 1\n", "a", of("1")), junk(wrong))
			checkPieces(t, message("a = 1\n .a = 0\n", "a", of("1"), attr("a", "0")), junk(wrong))
			checkPieces(t, message("a =\n .a =\n 0\n", "a", nil, attr("a", "0")), gap("\n"), junk(wrong))
			checkPieces(t, junk("a =\n"+wrong))
			checkPieces(t, junk("a =\n\n \n"+wrong))
			checkPieces(t, junk("-a =\n"+wrong))
		}
	}
	checkPieces(t, comment("# a\n", 1, "a"), junk(" .b = 2\n"))
	checkPieces(t, junk(" .b = 2\n .c = 3\n"), message("d = 1", "d", of("1")))
	checkPieces(t, message("a = 1\n .b = 2\n", "a", of("1"), attr("b", "2")), message("c =\n .d = 3", "c", nil, attr("d", "3")))
	checkPieces(t, message("a = 1\n .b = 2\n", "a", of("1"), attr("b", "2")), junk(".c = 3\n .d = 4\n"))
	checkPieces(t, message("a = 1\n", "a", of("1")), comment("# b\n", 1, "b"), junk(" .c = 2"))
}

func TestP9_1NoMessages(t *testing.T) {
	for _, s := range []string{
		"a", "a ", "a 1", "a: 1", "a :=", "a.b = 1", "a b = 1", "aé = 1", "a\t= 1", "a\u00a0= 1", "a =", "a =  ", "a = \n\n  \n", "a\n = 1", "a\n  .b = 1", "a!= 1", "a + = 1",
		"= 1", "1 = 2", "1a = 2", "_a = 1", "é = 1", "$a = 1", ".a = 1", "*a = 1", "[a] = 1", "{a} = 1", "\"a\" = 1", "\ta = 1", "\u00a0a = 1", "\x00", "?",
		"a = }", "a = 1 }", "a = }1", "a = 1\n 2 }", "a = {$x}}", "a = {", "a = {}", "a = { }", "a = 1 {", "a = {1", "a = 1\n {", "a = 1\n  {1 2}", "a = {-t.a}", "a = {f()}", "a = {$x ->\n}", "a = {$x ->\n[k] v\n}", "a = 1 { $ }\n .b = 2\n", "a = { \"1\n\" }",
		"-", "--", "- a = 1", "--a = 1", "-1 = 1", "-_a = 1", "-é = 1", "-a", "-a 1", "-a =", "-a = \n", "-a = }", "-a = {", "-a.b = 1", "-a\n = 1", "-\n", "-$a = 1", "- = 1", "-a =\n .b = 1", "-a = 1 }",
	} {
		checkPiece(t, junk(s))
	}
}

// TestP9_1Indented is of lines with a space ahead: none begins an entry, but behind a message each one may belong to its value.
func TestP9_1Indented(t *testing.T) {
	for _, s := range []string{"a = 1", "a", "-a = 1", "# a", "#", "é", "\t.b = 2"} {
		for _, indented := range []string{" " + s, "    " + s} {
			checkPieces(t, junk(indented))
			checkPieces(t, gap("  \n\n"), junk(indented+"\n"))
			checkPieces(t, comment("# b\n", 1, "b"), gap("\n"), junk(indented+"\n"), message("c = 1\n", "c", of("1")))
			checkPieces(t, junk("?\n"+indented+"\n"), comment("# b", 1, "b"))
			checkPieces(t, message("b = 1\n"+indented+"\n", "b", of("1\n"+s)), gap("\n"), comment("# c", 1, "c"))
			checkPieces(t, message("b = 1\n .c = 2\n"+indented, "b", of("1"), attr("c", "2\n"+s)))
			checkPieces(t, junk("b = 1\n"+indented+" }\n .c = 2\n"))
		}
	}
}

func TestP9_1Depth(t *testing.T) {
	for deep := 1; deep <= api.MaxDepth+2; deep++ {
		place := repeat("{", deep) + "$x" + repeat("}", deep)
		e := variable("x")
		for range deep - 1 {
			e = nest(e)
		}
		if deep <= api.MaxDepth {
			checkPiece(t, message("a = "+place, "a", of(e)))
			checkPiece(t, message("a = 1\n .b ="+place, "a", of("1"), attr("b", e)))
		} else {
			checkPiece(t, junk("a = "+place))
			checkPieces(t, message("a = 1\n", "a", of("1")), junk(" .b ="+place+"\n"))
		}
	}
}

func TestP9_2Junk(t *testing.T) {
	checkPieces(t, junk("?\n"), junk("a\n"), junk("-b\n"), junk("#c\n"), junk("Z"))
	checkPieces(t, junk("?\n?\n\n  \n a = 1\n .b = 2\n*\n\t\n"), message("a = 1\n", "a", of("1")))
	checkPieces(t, junk("?\n\n\n"), comment("# a\n", 1, "a"), junk("?\n"), term("-a = 1", "a", of("1")))
	checkPieces(t, junk("a\n\n  \n"), junk("a\n b\n"), junk("a"))
	checkPieces(t, gap("\n  \n"), junk("?\n\n  \n   "))
	checkPieces(t, junk("-u = { \n}\n9 = 1\n } \n"), junk("k = {\n"), message("z = 3", "z", of("3")))
	// What braces would hold, too, ends where a line may begin something.
	checkPieces(t, junk("a = {$x ->\n [k] {\n"), message("b = 1\n", "b", of("1")), junk("}\n*[l] v\n}\n"), comment("# c", 1, "c"))
	checkPieces(t, junk("a = {$x ->\n\n  *[k]\n"), junk("b\n}"))
	checkPieces(t, junk("a = { F(\n"), junk("b,\n"), junk("-c,\n$d\n) {\n"), junk("e"))
}

func TestP9_2EveryByte(t *testing.T) {
	for c := range 0x180 {
		sign := string(rune(c))
		isBegin := sign == "#" || sign == "-" || c < 0x80 && strings.ContainsAny(strings.ToLower(sign), "abcdefghijklmnopqrstuvwxyz")
		switch {
		case sign == "\r":
			continue // no text has it
		case isBegin:
			checkPieces(t, junk("?\n"), junk(sign+"?\n"))
			checkPieces(t, junk("?\n\n  \n"), junk(sign+"?"))
		default:
			checkPieces(t, junk("?\n"+sign+"?\n"))
			checkPieces(t, junk("?\n"+sign))
		}
		if c >= 0x80 || !isBegin || sign == "-" || sign == "#" {
			continue
		}
		checkPieces(t, message(sign+"= 1\n", sign, of("1")), term("-"+sign+"= 1\n", sign, of("1")), message("a =\n ."+sign+"= 1\n", "a", nil, attr(sign, "1")))
	}
}

func TestP9_3TextsOfAnyList(t *testing.T) {
	const s = "\na = 1\n\n?é\n"
	places := []int{math.MinInt, -1, 0, 1, 3, 7, 8, len(s) - 1, len(s), len(s) + 1, math.MaxInt}
	for _, text := range []string{s, "", "a"} {
		for _, from := range places {
			for _, to := range places {
				for _, next := range places {
					list := []ast.Entry{{From: from, To: to}, {From: next, To: to}, {}}
					texts := entry.Texts(text, list)
					if strings.Join(texts, "") != text || slices.Contains(texts, "") {
						t.Fatalf("Texts(%q) of %d to %d, %d to %d: %q", text, from, to, next, to, texts)
					}
				}
			}
		}
		if texts := entry.Texts(text, nil); strings.Join(texts, "") != text || len(texts) != min(len(text), 1) {
			t.Errorf("Texts(%q) of no list: %q", text, texts)
		}
	}
}

// TestP9_3NewMemory writes into what was told, which no later call may tell.
func TestP9_3NewMemory(t *testing.T) {
	const s = "# a\nb = {$x} 1\n .c = {$y}\n?\n"
	want, list := entry.Parse(s), entry.Parse(s)
	texts := entry.Texts(s, list)
	list[1].Value[0].Place.Name, list[1].Value[1].Text, list[1].Attrs[0].Value[0].Place.Name, list[1].Attrs[0].Name = "z", "z", "z", "z"
	list[0], texts[0] = ast.Entry{}, ""
	checkSame(t, s, entry.Parse(s), want)
	if got := entry.Texts(s, want); strings.Join(got, "") != s || len(got) != 3 {
		t.Errorf("Texts: %q", got)
	}
}

func TestP9_1P9_2Long(t *testing.T) {
	const size = 100_000
	many := func(piece string) string { return repeat(piece, size) }
	checkPieces(t, gap(many(" \n")), message("a = 1\n"+many(" \n")+" .b = 2\n", "a", of("1"), attr("b", "2")), gap(many("  \n")+many(" ")))
	checkPieces(t, comment(many("# a\n"), 1, many("a\n")[:2*size-1]), comment("## "+many("#"), 2, many("#")))
	checkPieces(t, junk(many("#")+"\n?\n"+many("  a = {\n .b\n")), junk("a"))
	checkPieces(t, junk("a ="+many(" ")))
	checkPieces(t, message(many("a")+many(" ")+"="+many(" ")+"1", many("a"), of("1")))
	var s, attrs strings.Builder
	var want []ast.Entry
	var wantAttrs []ast.Attr
	for i := range size {
		n := strconv.Itoa(i)
		e := ast.Entry{Type: ast.Message, Name: "a" + n, Value: of(n), From: s.Len()}
		s.WriteString("a" + n + " = " + n + "\n")
		e.To = s.Len()
		want = append(want, e)
		attrs.WriteString("\n .b" + n + " = " + n)
		wantAttrs = append(wantAttrs, attr("b"+n, n))
	}
	checkSame(t, s.String(), entry.Parse(s.String()), want)
	checkPieces(t, message("a ="+attrs.String(), "a", nil, wantAttrs...))
	checkPieces(t, message("a = 1"+attrs.String()+"\n", "a", of("1"), wantAttrs...), junk(" .c = {"))
	for _, line := range []string{"a = {\n", "a = {F(\n", "a = 1\n .b = {F(\n", "a = {$x ->\n *[k]\n", "?\n", "-a =\n .b = 1\n", "####\n", "F(\n", "-a\n (\n"} {
		texts := entry.Texts(many(line), entry.Parse(many(line)))
		if strings.Join(texts, "") != many(line) {
			t.Errorf("Texts of many %q", line)
		}
	}
}
