package resolve

import (
	"strings"
	"unicode/utf8"

	"polyglot/api"
	"polyglot/ast"
	"polyglot/bundle"
	"polyglot/number"
	"polyglot/value"
)

// What stands for a place that is left out, by itself and in braces.
const (
	unknown = "?"
	leftOut = "{" + unknown + "}"
)

// writer is what writes a message, and what went wrong so far. Its calls come back to themselves through places alone, so that MaxPlaces bounds how deep they go.
type writer struct {
	bundle *bundle.Bundle
	marks  *number.Marks
	lang   string
	open   map[string]struct{} // the names of the patterns that are being written
	places int                 // how many have begun
	errors []Error
}

// scope is what stands for names within a pattern.
type scope map[string]value.Value

// named writes the pattern of a name, which counts as open meanwhile.
func (w *writer) named(name string, list []ast.Elem, args scope) string {
	w.open[name] = struct{}{}
	defer w.end(name)
	return w.pattern(list, args)
}

func (w *writer) end(name string) { delete(w.open, name) }

func (w *writer) pattern(list []ast.Elem, args scope) string {
	var out strings.Builder
	for _, e := range list {
		if e.Place != nil {
			out.WriteString(w.place(e.Place, args))
		} else {
			out.WriteString(e.Text)
		}
	}
	return out.String()
}

func (w *writer) place(e *ast.Expr, args scope) string {
	w.places++
	switch {
	case w.places == api.MaxPlaces+1:
		return w.leaveOut(TooMany)
	case w.places > api.MaxPlaces:
		return leftOut
	}
	told := w.expr(e, args)
	if utf8.RuneCountInString(told) > api.MaxLength {
		return w.leaveOut(TooLong)
	}
	return told
}

// expr writes an expression's value, or its name, if it has none.
func (w *writer) expr(e *ast.Expr, args scope) string {
	if v, ok := w.value(e, args); ok {
		return v.String(w.marks, w.lang)
	}
	return "{" + nameOf(e) + "}"
}

// value is an expression's value; false: it has none, and why is told.
func (w *writer) value(e *ast.Expr, args scope) (value.Value, bool) {
	switch e.Kind {
	case ast.Str, ast.Num:
		return literal(e), true
	case ast.Var:
		if v, ok := args[e.Name]; ok {
			return v, true
		}
		return w.wrong(NoVar, e)
	case ast.Msg:
		entry, ok := w.bundle.Message(e.Name)
		if !ok {
			return w.wrong(NoMessage, e)
		}
		return w.reference(e, entry, args)
	case ast.Term:
		entry, ok := w.bundle.Term(e.Name)
		if !ok {
			return w.wrong(NoTerm, e)
		}
		return w.reference(e, entry, ownScope(e.Args))
	case ast.Func:
		return w.call(e, args)
	case ast.Nest:
		return value.Str(w.place(e.Inner, args)), true
	case ast.Select:
		return value.Str(w.pattern(w.choice(e, args), args)), true
	}
	return value.Value{}, false
}

// reference is a message's or a term's pattern as a value.
func (w *writer) reference(e *ast.Expr, entry ast.Entry, args scope) (value.Value, bool) {
	list, ok := bundle.Attr(entry, e.Attr)
	if !ok {
		return w.wrong(NoValue, e)
	}
	name := nameOf(e)
	if _, isOpen := w.open[name]; isOpen {
		return w.wrong(Cyclic, e)
	}
	return value.Str(w.named(name, list, args)), true
}

// choice is the pattern of the variant that is meant.
func (w *writer) choice(e *ast.Expr, args scope) []ast.Elem {
	var usual []ast.Elem
	asked, ok := w.value(e.Inner, args)
	for _, v := range e.Variants {
		if ok && asked.Is(v.Key, w.lang) {
			return v.Value
		}
		if v.Default {
			usual = v.Value
		}
	}
	return usual
}

// ownScope is a term's arguments by their names.
func ownScope(list []ast.Arg) scope {
	own := scope{}
	for _, a := range list {
		if a.Name != "" {
			own[a.Name] = literal(&a.Value)
		}
	}
	return own
}

// literal is the value of a text, or of a number, that is written out.
func literal(e *ast.Expr) value.Value {
	if e.Kind == ast.Num {
		return value.Written(e.Text)
	}
	return value.Str(e.Text)
}

// wrong tells that something is wrong with an expression, which so has no value.
func (w *writer) wrong(code Code, e *ast.Expr) (value.Value, bool) {
	w.errors = append(w.errors, Error{code, nameOf(e)})
	return value.Value{}, false
}

// leaveOut tells why a place is left out, and what stands for it.
func (w *writer) leaveOut(code Code) string {
	w.errors = append(w.errors, Error{code, unknown})
	return leftOut
}

// nameOf is the name of an expression of which something may be wrong.
func nameOf(e *ast.Expr) string {
	switch e.Kind {
	case ast.Var:
		return "$" + e.Name
	case ast.Msg:
		return joined(e.Name, e.Attr)
	case ast.Term:
		return "-" + joined(e.Name, e.Attr)
	case ast.Func:
		return e.Name + "()"
	}
	return ""
}

// joined is a name with that of an attribute, if there is one.
func joined(name, attr string) string {
	if attr == "" {
		return name
	}
	return name + "." + attr
}
