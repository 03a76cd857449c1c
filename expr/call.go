package expr

import (
	"polyglot/ast"
	"polyglot/scan"
)

// call is a Func or a Term whose arguments are being read.
type call struct {
	expr       ast.Expr
	names      map[string]struct{} // its arguments' names, so that none is there twice
	wantsComma bool                // whether its last argument has none behind it
}

// add puts an argument behind those that there are; false: it may not stand there.
func (c *call) add(a ast.Arg) bool {
	if a.Name == "" && (len(c.names) > 0 || isTermsAttr(a.Value)) {
		return false
	}
	if a.Name != "" {
		if _, isTwice := c.names[a.Name]; isTwice {
			return false
		}
		if c.names == nil {
			c.names = map[string]struct{}{}
		}
		c.names[a.Name] = struct{}{}
	}
	c.expr.Args = append(c.expr.Args, a)
	c.wantsComma = true
	return true
}

// inline reads an inline expression, so many braces deep. The calls whose arguments are still being read stand in a list: arguments may stand within each other deeper than functions can.
func (r *reader) inline(deep int) (ast.Expr, bool) {
	e, ok := r.head(deep)
	if !ok || !r.opens(&e) {
		return e, ok
	}
	open := []call{{expr: e}}
	for ok {
		r.pass(scan.Blank)
		last := len(open) - 1
		switch top := &open[last]; {
		case r.take(")"):
			if last == 0 {
				return top.expr, true
			}
			open = open[:last]
			ok = open[last-1].add(ast.Arg{Value: top.expr})
		case top.wantsComma:
			ok = r.take(",")
			top.wantsComma = false
		default:
			var a ast.Arg
			a, ok = r.argument(deep)
			if a.Name == "" && r.opens(&a.Value) {
				open = append(open, call{expr: a.Value})
			} else {
				ok = ok && top.add(a)
			}
		}
	}
	return ast.Expr{}, false
}

// opens reads what begins the arguments of an expression, and makes a message's name that has them a Func; false: none may stand there.
func (r *reader) opens(e *ast.Expr) bool {
	isFunc := e.Kind == ast.Msg && e.Attr == "" && scan.Big(e.Name)
	if !isFunc && e.Kind != ast.Term {
		return false
	}
	r.pass(scan.Blank) // which may stand behind any inline expression, so that there is no need to go back
	if !r.take("(") {
		return false
	}
	if isFunc {
		e.Kind = ast.Func
	}
	return true
}

// argument reads an argument, of one that has arguments what stands ahead of these.
func (r *reader) argument(deep int) (ast.Arg, bool) {
	from := r.at
	if a, ok := r.named(); ok {
		return a, true
	}
	r.at = from
	e, ok := r.head(deep)
	return ast.Arg{Value: e}, ok
}

// named reads an argument with a name.
func (r *reader) named() (ast.Arg, bool) {
	name := r.pass(scan.Name)
	r.pass(scan.Blank)
	if name == "" || !r.take(":") {
		return ast.Arg{}, false
	}
	r.pass(scan.Blank)
	value, ok := r.first(r.quoted, r.number)
	return ast.Arg{Name: name, Value: value}, ok
}
