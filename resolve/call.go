package resolve

import (
	"slices"

	"polyglot/api"
	"polyglot/ast"
	"polyglot/moment"
	"polyglot/value"
)

// The functions.
const (
	numberFunc = "NUMBER"
	momentFunc = "DATETIME"
)

// call is a function's value. The functions that stand within each other's arguments are put into a list: they may do so deeper than calls can.
func (w *writer) call(e *ast.Expr, args scope) (value.Value, bool) {
	var calls []*ast.Expr
	for e.Kind == ast.Func {
		if code := fault(e); code != 0 {
			return w.wrong(code, e)
		}
		calls = append(calls, e)
		e = &e.Args[0].Value
	}
	v, ok := w.value(e, args)
	for i := len(calls) - 1; ok && i >= 0; i-- {
		v, ok = w.turned(v, calls[i])
	}
	return v, ok
}

// fault is what is wrong with a function ahead of its argument's value; 0: nothing is.
func fault(e *ast.Expr) Code {
	isNameless := func(a ast.Arg) bool { return a.Name == "" }
	switch {
	case e.Name != numberFunc && e.Name != momentFunc:
		return NoFunc
	case len(e.Args) == 0 || !isNameless(e.Args[0]) || slices.ContainsFunc(e.Args[1:], isNameless):
		return BadArg
	}
	return 0
}

// turned is a value with a function's options.
func (w *writer) turned(v value.Value, e *ast.Expr) (value.Value, bool) {
	turn, kind := setOpt, value.Number
	if e.Name == momentFunc {
		turn, kind = setStyle, value.Moment
	}
	if v.Kind != kind {
		return w.wrong(BadArg, e)
	}
	for _, a := range e.Args[1:] {
		if !turn(&v, a.Name, literal(&a.Value)) {
			return w.wrong(BadArg, e)
		}
	}
	return v, true
}

// setOpt turns an option of a number; false: there is no such one, or it can't be so.
func setOpt(v *value.Value, name string, to value.Value) bool {
	opts, err := v.Opts.Set(name, to.Text, to.Num, to.Kind == value.Text)
	v.Opts = opts
	return err == api.OK
}

// setStyle turns an option of a moment; false: there is no such one, or it can't be so.
func setStyle(v *value.Value, name string, to value.Value) bool {
	style, ok := moment.Parse(to.Text)
	v.Style = style
	return ok && name == "style" && to.Kind == value.Text
}
