package expr

import (
	"polyglot/api"
	"polyglot/ast"
	"polyglot/scan"
	"polyglot/text"
)

// place reads a place, so many braces deep.
func (r *reader) place(deep int) (ast.Expr, bool) {
	if deep > api.MaxDepth || !r.take("{") {
		return ast.Expr{}, false
	}
	r.pass(scan.Blank)
	e, ok := r.inline(deep)
	if !ok {
		return ast.Expr{}, false
	}
	r.pass(scan.Blank)
	if r.take("}") {
		return e, !isTermsAttr(e)
	}
	if !r.take("->") || !mayBeAsked(e) {
		return ast.Expr{}, false
	}
	list, ok := r.variants(deep)
	return ast.Expr{Kind: ast.Select, Inner: &e, Variants: list}, ok
}

func isTermsAttr(e ast.Expr) bool { return e.Kind == ast.Term && e.Attr != "" }

// mayBeAsked tells whether there may be variants of an expression.
func mayBeAsked(e ast.Expr) bool {
	switch e.Kind {
	case ast.Str, ast.Num, ast.Var, ast.Func:
		return true
	}
	return isTermsAttr(e)
}

// variants reads a Select's variants, and the brace that ends them.
func (r *reader) variants(deep int) ([]ast.Variant, bool) {
	r.pass(scan.Spaces)
	if !r.take("\n") {
		return nil, false
	}
	r.pass(scan.Blank)
	var list []ast.Variant
	defaults := 0
	for !r.take("}") {
		v, ok := r.variant(deep)
		if !ok {
			return nil, false
		}
		if v.Default {
			defaults++
		}
		list = append(list, v)
		r.pass(scan.Blank)
	}
	return list, defaults == 1
}

// variant reads a variant, but for the line feed that ends it.
func (r *reader) variant(deep int) (ast.Variant, bool) {
	isDefault := r.take("*")
	if !r.take("[") {
		return ast.Variant{}, false
	}
	r.pass(scan.Blank)
	key := r.pass(scan.Name)
	if key == "" {
		key = r.pass(scan.Number)
	}
	r.pass(scan.Blank)
	if key == "" || !r.take("]") {
		return ast.Variant{}, false
	}
	value, ok := r.pattern(deep)
	isLine := r.at < len(r.s) && r.s[r.at] == '\n'
	return ast.Variant{Key: key, Default: isDefault, Value: value}, ok && isLine && len(value) > 0
}

// head reads an inline expression, of one with arguments what stands ahead of them.
func (r *reader) head(deep int) (ast.Expr, bool) {
	nest := func() (ast.Expr, bool) {
		e, ok := r.place(deep + 1)
		return ast.Expr{Kind: ast.Nest, Inner: &e}, ok
	}
	return r.first(r.quoted, r.variable, nest, r.term, r.message, r.number)
}

func (r *reader) quoted() (ast.Expr, bool) {
	told, size, ok := text.Unquote(r.s[r.at:])
	r.at += size
	return ast.Expr{Kind: ast.Str, Text: told}, ok
}

func (r *reader) number() (ast.Expr, bool) {
	told := r.pass(scan.Number)
	return ast.Expr{Kind: ast.Num, Text: told}, told != ""
}

func (r *reader) variable() (ast.Expr, bool) {
	if !r.take("$") {
		return ast.Expr{}, false
	}
	name := r.pass(scan.Name)
	return ast.Expr{Kind: ast.Var, Name: name}, name != ""
}

func (r *reader) term() (ast.Expr, bool) {
	if !r.take("-") {
		return ast.Expr{}, false
	}
	return r.reference(ast.Term)
}

func (r *reader) message() (ast.Expr, bool) { return r.reference(ast.Msg) }

// reference reads the name of something of that kind, and perhaps of an attribute.
func (r *reader) reference(kind ast.Kind) (ast.Expr, bool) {
	e := ast.Expr{Kind: kind, Name: r.pass(scan.Name)}
	if e.Name == "" || !r.take(".") {
		return e, e.Name != ""
	}
	e.Attr = r.pass(scan.Name)
	return e, e.Attr != ""
}
