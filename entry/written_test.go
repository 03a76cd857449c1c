package entry_test

import (
	"math/rand/v2"
	"strings"
	"testing"
	"unicode/utf8"

	"polyglot/ast"
)

func pick[T any](random *rand.Rand, list ...T) T { return list[random.IntN(len(list))] }

// written is a pattern's text, from behind a = to its line's end, and what it is read as.
type written struct {
	s    string
	list []ast.Elem
}

// anyWritten is a pattern that isn't empty.
func anyWritten(random *rand.Rand) written {
	x := variable("x")
	return pick(random,
		written{"1", of("1")}, written{" b c  ", of("b c")}, written{"   .b = c", of(".b = c")}, written{" # -b", of("# -b")}, written{" é\t", of("é\t")},
		written{"\n b", of("b")}, written{" b\n\n  c\n d", of("b\n\n c\nd")}, written{"  \n\n    b\n  c = d", of("b\nc = d")},
		written{" {$x}", of(x)}, written{" {\n$x\n} b ", of(x, " b")}, written{"{1}{$x}", of(num("1"), x)}, written{"\n  {{$x}}\n {1}", of(nest(x), "\n", num("1"))},
		written{" {$x ->\n*[k] v\n}", of(choose(x, "v"))}, written{"\n b {$x ->\n*[k] v\n w\n} c", of("b ", choose(x, "v\nw"), " c")},
	)
}

func anyName(random *rand.Rand) string { return pick(random, "a", "Zz", "k-1_", "A--", "NUMBER") }

func anySpaces(random *rand.Rand) string { return pick(random, "", " ", "    ") }

// anyMessage is a message, or a term, without a line feed at its end.
func anyMessage(random *rand.Rand) piece {
	name := anyName(random)
	p := message(name+anySpaces(random)+"=", name, nil)
	attrs := random.IntN(4)
	switch {
	case random.IntN(3) == 0:
		p.e.Type = ast.Entity
		p.s = "-" + p.s
		fallthrough
	case attrs == 0 || random.IntN(3) > 0:
		v := anyWritten(random)
		p.s += v.s
		p.e.Value = v.list
	}
	for range attrs {
		v := anyWritten(random)
		name := anyName(random)
		p.s += pick(random, "", "  ") + pick(random, "\n", "\n", "\n\n", "\n  \n\n") + pick(random, " ", "     ") + "." + name + anySpaces(random) + "=" + v.s
		p.e.Attrs = append(p.e.Attrs, ast.Attr{Name: name, Value: v.list})
	}
	return p
}

// anyComment is a comment of that level, without a line feed at its end.
func anyComment(random *rand.Rand, level int) piece {
	marks := repeat("#", level)
	var lines, texts []string
	for range 1 + random.IntN(3) {
		words := pick(random, "", "", "a", " b ", "# c", "d = { e", "é")
		line := marks + " " + words
		if words == "" && random.IntN(2) == 0 {
			line = marks
		}
		lines = append(lines, line)
		texts = append(texts, words)
	}
	return comment(strings.Join(lines, "\n"), level, strings.Join(texts, "\n"))
}

func anyJunk(random *rand.Rand) piece {
	return junk(pick(random, "é", "a", "-", "#a", "####", "a = {", "a = 1 }", "-a =", "-a =\n .b = 1", "1 = 2", ".b = 1", "a = {$x ->\n*[k v", "\t", "}", "a =\n  .b =\n  \n"))
}

// anyPieces is what a text may be made of.
func anyPieces(random *rand.Rand) []piece {
	var list []piece
	addGap := func() {
		if random.IntN(3) == 0 {
			list = append(list, gap(pick(random, "\n", " \n", "\n\n", "  \n \n")))
		}
	}
	addGap()
	size, level := random.IntN(6), 0
	for i := range size {
		var p piece
		switch random.IntN(6) {
		case 0:
			level = level%3 + 1 // two of one level side by side would be one
			p = anyComment(random, level)
		case 1:
			p = anyJunk(random)
		default:
			p = anyMessage(random)
		}
		if i < size-1 || random.IntN(2) == 0 {
			p.s += "\n"
		}
		if p.e.Type == ast.Junk {
			p.e.Text = p.s
		}
		list = append(list, p)
		// Lines behind junk are junk, unless they begin as entries do.
		if p.e.Type != ast.Junk && strings.HasSuffix(p.s, "\n") {
			addGap()
		}
	}
	return joined(list)
}

// joined is the same pieces, with junk put behind the junk to which its line belongs.
func joined(list []piece) []piece {
	var out []piece
	for _, p := range list {
		last := len(out) - 1
		isBegin := strings.ContainsAny(p.s[:1], "#-aA")
		if p.e.Type == ast.Junk && !isBegin && last >= 0 && out[last].e.Type == ast.Junk && out[last].isEntry {
			out[last].s += p.s
			out[last].e.Text += p.s
			continue
		}
		out = append(out, p)
	}
	return out
}

func TestP9_1AnyWritten(t *testing.T) {
	types := map[ast.Type]int{}
	for seed := range uint64(40_000) {
		pieces := anyPieces(rand.New(rand.NewPCG(seed, 1)))
		checkPieces(t, pieces...)
		if t.Failed() {
			t.Fatalf("seed %d", seed)
		}
		for _, p := range pieces {
			if p.isEntry {
				types[p.e.Type]++
			}
			if len(p.e.Attrs) > 0 && len(p.e.Value) == 0 {
				types[withAttrs]++
			}
		}
	}
	checkTypes(t, types, 1000, ast.Comment, ast.Message, ast.Entity, ast.Junk, withAttrs)
}

// changed is a text with a few of its signs left out, put in, or put in place of others.
func changed(random *rand.Rand, s string) string {
	signs := []rune("#-a=.{} \n\n  1$[*\t?é")
	for range 1 + random.IntN(2) {
		i := random.IntN(len(s) + 1)
		for !utf8.RuneStart((s + " ")[i]) {
			i--
		}
		_, size := utf8.DecodeRuneInString(s[i:])
		sign := string(signs[random.IntN(len(signs))])
		switch random.IntN(4) {
		case 0:
			s = s[:i] + s[i+size:]
		case 1:
			s = s[:i] + sign + s[i+size:]
		case 2:
			s = s[:i]
		default:
			s = s[:i] + sign + s[i:]
		}
	}
	return s
}

func TestP9_1P9_2AnyChanged(t *testing.T) {
	types := map[ast.Type]int{}
	for seed := range uint64(60_000) {
		random := rand.New(rand.NewPCG(seed, 9))
		var s string
		for _, p := range anyPieces(random) {
			s += p.s
		}
		checkText(t, changed(random, s), types)
	}
	checkTypes(t, types, 1000, ast.Comment, ast.Message, ast.Entity, ast.Junk, withAttrs)
}
