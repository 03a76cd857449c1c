package serial

import (
	"polyglot/ast"
	"polyglot/text"
)

// call is a Func or a Term whose arguments are being written, and how many of them are.
type call struct {
	args    []ast.Arg
	written int
}

// inline writes an expression that is no Select. The calls whose arguments are still being written stand in a list: arguments may stand within each other deeper than functions can.
func (w *writer) inline(e *ast.Expr, margin string) {
	var open []call
	for {
		w.head(e, margin)
		if e.Kind == ast.Func || len(e.Args) > 0 {
			w.write("(")
			open = append(open, call{args: e.Args})
		}
		last := len(open) - 1
		for last >= 0 && open[last].written == len(open[last].args) {
			w.write(")")
			open = open[:last]
			last--
		}
		if last < 0 {
			return
		}
		e = w.nextValue(&open[last])
	}
}

// nextValue is the value of the next argument, ahead of which all else is written.
func (w *writer) nextValue(c *call) *ast.Expr {
	if c.written > 0 {
		w.write(", ")
	}
	a := &c.args[c.written]
	c.written++
	if a.Name != "" {
		w.write(a.Name, ": ")
	}
	return &a.Value
}

// head writes an expression that is no Select, but for its arguments.
func (w *writer) head(e *ast.Expr, margin string) {
	switch e.Kind {
	case ast.Str:
		w.write(text.Quote(e.Text))
	case ast.Num:
		w.write(e.Text)
	case ast.Var:
		w.write("$", e.Name)
	case ast.Msg, ast.Func:
		w.reference(e)
	case ast.Term:
		w.write("-")
		w.reference(e)
	case ast.Nest:
		w.place(e.Inner, margin)
	}
}

// reference writes a name, and that of an attribute, if there is one.
func (w *writer) reference(e *ast.Expr) {
	w.write(e.Name)
	if e.Attr != "" {
		w.write(".", e.Attr)
	}
}
