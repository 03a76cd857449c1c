package serial

import (
	"strings"

	"polyglot/ast"
)

// What the lines of a value, and of an attribute's value, begin with.
const (
	valueMargin = "    "
	attrMargin  = "        "
)

// entries writes entries, one behind the other.
func (w *writer) entries(list ...ast.Entry) {
	for i, e := range list {
		if i > 0 && wouldBeOne(list[i-1], e) {
			w.write("\n")
		}
		w.entry(e)
	}
}

// wouldBeOne tells whether two entries side by side would be read as one: as comments of one level are.
func wouldBeOne(first, second ast.Entry) bool {
	return first.Type == ast.Comment && second.Type == ast.Comment && first.Level == second.Level
}

func (w *writer) entry(e ast.Entry) {
	switch e.Type {
	case ast.Comment:
		w.comment(e)
	case ast.Message:
		w.message(e)
	case ast.Entity:
		w.write("-")
		w.message(e)
	case ast.Junk:
		w.write(e.Text)
	}
}

func (w *writer) comment(e ast.Entry) {
	marks := strings.Repeat("#", e.Level)
	line, behind, hasMore := "", e.Text, true
	for hasMore {
		line, behind, hasMore = strings.Cut(behind, "\n")
		w.write(marks)
		if line != "" {
			w.write(" ", line)
		}
		w.write("\n")
	}
}

// message writes a message; of a term, what stands behind its hyphen.
func (w *writer) message(e ast.Entry) {
	defer w.write("\n")
	w.named(e.Name, e.Value, valueMargin)
	for _, a := range e.Attrs {
		w.write("\n", valueMargin, ".")
		w.named(a.Name, a.Value, attrMargin)
	}
}

// named writes a name, and its pattern, if that isn't empty.
func (w *writer) named(name string, value []ast.Elem, margin string) {
	w.write(name, " =")
	if len(value) > 0 {
		w.pattern(value, margin)
	}
}
