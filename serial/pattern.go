package serial

import (
	"slices"
	"strings"

	"polyglot/ast"
)

// A variant stands further in than the braces around it, and its value's lines stand further in than itself.
const (
	variantIndent = "   "
	valueIndent   = "        "
)

// pattern writes a pattern, and what parts it from what stands ahead; its lines begin with the margin.
func (w *writer) pattern(list []ast.Elem, margin string) {
	if beginsLine(list) {
		w.write("\n", margin)
	} else {
		w.write(" ")
	}
	for _, e := range list {
		if e.Place != nil {
			w.place(e.Place, margin)
		} else {
			w.text(e.Text, margin)
		}
	}
}

// beginsLine tells whether a pattern begins on a line of its own: if it has several, but one that begins with a mark would be something else there.
func beginsLine(list []ast.Elem) bool {
	hasFeed := func(e ast.Elem) bool { return strings.Contains(e.Text, "\n") }
	return slices.ContainsFunc(list, hasFeed) && strings.IndexAny(list[0].Text, ".*[") != 0
}

// text writes a text of a pattern. Its lines of nothing stay so.
func (w *writer) text(s, margin string) {
	line, behind, hasMore := strings.Cut(s, "\n")
	for hasMore {
		w.write(line, "\n")
		if !strings.HasPrefix(behind, "\n") {
			w.write(margin)
		}
		line, behind, hasMore = strings.Cut(behind, "\n")
	}
	w.write(line)
}

// place writes an expression in braces.
func (w *writer) place(e *ast.Expr, margin string) {
	w.write("{ ")
	defer w.write("}")
	if e.Kind != ast.Select {
		w.inline(e, margin)
		w.write(" ")
		return
	}
	w.inline(e.Inner, margin)
	w.write(" ->")
	for _, v := range e.Variants {
		w.variant(v, margin)
	}
	w.write("\n", margin)
}

func (w *writer) variant(v ast.Variant, margin string) {
	mark := " "
	if v.Default {
		mark = "*"
	}
	w.write("\n", margin, variantIndent, mark, "[", v.Key, "]")
	w.pattern(v.Value, margin+valueIndent)
}
