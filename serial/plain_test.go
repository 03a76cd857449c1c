package serial_test

import (
	"regexp"
	"strings"
	"testing"

	"polyglot/ast"
	"polyglot/entry"
	"polyglot/serial"
	"polyglot/text"
)

// What the document says, in forms and in calls within calls: what Entry and Resource are held against.
var (
	feedForm = regexp.MustCompile(`\n([^\n]|\z)`)
	markForm = regexp.MustCompile(`\A[.*\[]`)
	wordForm = regexp.MustCompile(`(?m)^(.+)$`)
	lineForm = regexp.MustCompile(`(?m)^`)
)

func plainResource(list []ast.Entry) string {
	out, last := "", ast.Entry{}
	for _, e := range list {
		if e.Type == ast.Comment && last.Type == ast.Comment && e.Level == last.Level {
			out += "\n"
		}
		out += plainEntry(e)
		last = e
	}
	return out
}

func plainEntry(e ast.Entry) string {
	switch e.Type {
	case ast.Junk:
		return e.Text
	case ast.Comment:
		return lineForm.ReplaceAllString(wordForm.ReplaceAllString(e.Text, " $1"), repeat("#", e.Level)) + "\n"
	}
	out := ""
	if e.Type == ast.Entity {
		out = "-"
	}
	out += e.Name + " ="
	if len(e.Value) > 0 {
		out += plainPattern(e.Value, 4)
	}
	for _, a := range e.Attrs {
		out += "\n    ." + a.Name + " =" + plainPattern(a.Value, 8)
	}
	return out + "\n"
}

func plainPattern(list []ast.Elem, margin int) string {
	out, texts := "", ""
	for _, e := range list {
		texts += e.Text
		if e.Place != nil {
			out += plainPlace(*e.Place, margin)
		} else {
			out += feedForm.ReplaceAllString(e.Text, "\n"+repeat(" ", margin)+"$1")
		}
	}
	if strings.Contains(texts, "\n") && !markForm.MatchString(list[0].Text) {
		return "\n" + repeat(" ", margin) + out
	}
	return " " + out
}

func plainPlace(e ast.Expr, margin int) string {
	if e.Kind != ast.Select {
		return "{ " + plainInline(e, margin) + " }"
	}
	out := "{ " + plainInline(*e.Inner, margin) + " ->"
	for _, v := range e.Variants {
		ahead := " "
		if v.Default {
			ahead = "*"
		}
		out += "\n" + repeat(" ", margin+3) + ahead + "[" + v.Key + "]" + plainPattern(v.Value, margin+8)
	}
	return out + "\n" + repeat(" ", margin) + "}"
}

func plainInline(e ast.Expr, margin int) string {
	switch e.Kind {
	case ast.Str:
		return text.Quote(e.Text)
	case ast.Num:
		return e.Text
	case ast.Nest:
		return plainPlace(*e.Inner, margin)
	}
	out := map[ast.Kind]string{ast.Var: "$", ast.Term: "-"}[e.Kind] + e.Name
	if e.Attr != "" {
		out += "." + e.Attr
	}
	var args []string
	for _, a := range e.Args {
		ahead := ""
		if a.Name != "" {
			ahead = a.Name + ": "
		}
		args = append(args, ahead+plainInline(a.Value, margin))
	}
	if e.Kind == ast.Func || len(args) > 0 {
		out += "(" + strings.Join(args, ", ") + ")"
	}
	return out
}

// checkPlain holds what is written of entries that may be, and of junk, against the plain form, and against what is read of it again.
func checkPlain(t *testing.T, list []ast.Entry) {
	t.Helper()
	want := plainResource(list)
	got := serial.Resource(list)
	if got != want {
		t.Fatalf("Resource: %s, want %s", shorten(got), shorten(want))
	}
	if again := entry.Parse(got); !areSame(again, list) {
		t.Fatalf("%s is read as other entries: %s", shorten(got), shorten(serial.Resource(again)))
	}
	for _, e := range list {
		if got, want := serial.Entry(e), plainEntry(e); got != want {
			t.Fatalf("Entry: %s, want %s", shorten(got), shorten(want))
		}
	}
}

// checkText is checkPlain of what a text is read as; it counts the entries of each type.
func checkText(t *testing.T, s string, types map[ast.Type]int) {
	t.Helper()
	list := entry.Parse(s)
	checkPlain(t, list)
	for _, e := range list {
		types[e.Type]++
	}
}

// checkTypes tells whether there were so many entries of each type, so that a test is of all of them.
func checkTypes(t *testing.T, types map[ast.Type]int, least int, wanted ...ast.Type) {
	t.Helper()
	for _, k := range wanted {
		if types[k] < least {
			t.Errorf("just %d entries of type %d", types[k], k)
		}
	}
}

// TestP10_4AllShort is of all short texts of some pieces.
func TestP10_4AllShort(t *testing.T) {
	for _, c := range []struct {
		ahead  string
		size   int
		pieces []string
		wanted []ast.Type
	}{
		{"", 7, []string{"#", " ", "\n", "a"}, []ast.Type{ast.Comment, ast.Junk}},
		{"", 6, []string{"# a", "## b", "\n", "#", " "}, []ast.Type{ast.Comment, ast.Junk}},
		{"", 7, []string{"a", "-", "=", " ", "\n"}, []ast.Type{ast.Message, ast.Entity, ast.Junk}},
		{"a = 1", 6, []string{".b", "=", " ", "\n", "2", "*"}, []ast.Type{ast.Message, ast.Junk}},
		{"a =", 7, []string{"\n .b", "= 2", " ", "\n", "}"}, []ast.Type{ast.Message, ast.Junk}},
		{"-a =", 7, []string{" ", "\n", "b", ".", "{1}"}, []ast.Type{ast.Entity, ast.Junk}},
		{"a = {$x ->", 6, []string{"\n", " ", "*[k]", "[l]", "v", "}"}, []ast.Type{ast.Message, ast.Junk}},
		{"", 5, []string{"# a\n", "a = 1", "\n .b = 2", "\n", " ", "?", "-c =\n 3"}, []ast.Type{ast.Comment, ast.Message, ast.Entity, ast.Junk}},
		// What ends junk might end another thing, if it were written in another way.
		{"a = {", 6, []string{"\n", "b", " = 1", "}", "# c", " "}, []ast.Type{ast.Message, ast.Comment, ast.Junk}},
		{"a = {F(", 5, []string{"\n", "b=1", "-c", ",", ")", "}", "b"}, []ast.Type{ast.Message, ast.Junk}},
		{"a = 1\n .b = {$x ->\n", 6, []string{"\n", "*[k]", "c = 1", " ", "}", "# d"}, []ast.Type{ast.Message, ast.Comment, ast.Junk}},
	} {
		types := map[ast.Type]int{}
		all := []string{""}
		for n := range c.size + 1 {
			var longer []string
			for _, s := range all {
				checkText(t, c.ahead+s, types)
				for _, p := range c.pieces {
					if n < c.size {
						longer = append(longer, s+p)
					}
				}
			}
			all = longer
		}
		checkTypes(t, types, 40, c.wanted...)
	}
}

// TestP10_2AllShort is of all short patterns, of texts and of places, that may be.
func TestP10_2AllShort(t *testing.T) {
	x := variable("x")
	selects := choose(variable("y"), usual("k", ".\nv"))
	pieces := []any{"a", " ", "\n", ".", x, selects}
	right := 0
	all := [][]any{nil}
	for range 7 {
		var longer [][]any
		for _, parts := range all {
			for _, p := range pieces {
				longer = append(longer, append(parts[:len(parts):len(parts)], p))
			}
		}
		for _, parts := range longer {
			value := joined(parts)
			e := with(message("1"), ast.Attr{Name: "a", Value: value})
			if e.Right() {
				right++
				inner := ast.Variant{Key: "k", Default: true, Value: value}
				e.Value = append(value[:len(value):len(value)], of(choose(x, inner))...)
				checkPlain(t, []ast.Entry{e})
			}
		}
		all = longer
	}
	if right < 50_000 {
		t.Errorf("just %d patterns", right)
	}
}

// joined is a pattern in which texts side by side are one.
func joined(parts []any) []ast.Elem {
	var list []ast.Elem
	for _, e := range of(parts...) {
		last := len(list) - 1
		if e.Place == nil && last >= 0 && list[last].Place == nil {
			list[last].Text += e.Text
			continue
		}
		list = append(list, e)
	}
	return list
}
