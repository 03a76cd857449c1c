package entry

import (
	"strings"

	"polyglot/ast"
	"polyglot/expr"
	"polyglot/scan"
)

// message reads a message, or a term, with its attributes; false: none stands there.
func message(s string, from int) (ast.Entry, bool) {
	e := ast.Entry{Type: ast.Message, From: from}
	at := from
	if strings.HasPrefix(s[from:], "-") {
		e.Type = ast.Entity
		at++
	}
	head, end, ok := named(s, at)
	if !ok {
		return ast.Entry{}, false
	}
	e.Name, e.Value = head.Name, head.Value
	e.Attrs, end = attributes(s, end)
	e.To = behindLine(s, end)
	hasAttrs := e.Type == ast.Message && len(e.Attrs) > 0
	return e, len(e.Value) > 0 || hasAttrs
}

// attributes reads all attributes behind a line's end, and tells where the last one's line ends.
func attributes(s string, end int) ([]ast.Attr, int) {
	var list []ast.Attr
	for {
		a, next, ok := attribute(s, end)
		if !ok {
			return list, end
		}
		list = append(list, a)
		end = next
	}
}

// attribute reads the attribute behind a line's end, and tells where its own line ends; false: none stands there.
func attribute(s string, end int) (ast.Attr, int, bool) {
	point := scan.Blank(s, end)
	if !strings.HasPrefix(s[point:], ".") || s[point-1] != ' ' {
		return ast.Attr{}, 0, false
	}
	a, next, ok := named(s, point+1)
	return a, next, ok && len(a.Value) > 0
}

// named reads a name and its pattern, and tells where the pattern's line ends; false: they don't stand there, or the pattern ends amid a line.
func named(s string, from int) (ast.Attr, int, bool) {
	nameEnd := scan.Name(s, from)
	at := scan.Spaces(s, nameEnd)
	if nameEnd == from || !strings.HasPrefix(s[at:], "=") {
		return ast.Attr{}, 0, false
	}
	value, end, ok := expr.Pattern(s, at+1)
	isLine := end == len(s) || s[end] == '\n'
	return ast.Attr{Name: s[from:nameEnd], Value: value}, end, ok && isLine
}
