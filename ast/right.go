package ast

import (
	"strings"
	"unicode/utf8"

	"polyglot/api"
	"polyglot/scan"
)

// Right tells whether an entry that is no junk may be.
func (e Entry) Right() bool {
	var q questions
	switch e.Type {
	case Comment:
		return isComment(e)
	case Message, Entity:
		return q.isMessage(e) && q.allHold()
	}
	return false
}

func isComment(e Entry) bool {
	return 1 <= e.Level && e.Level <= 3 && isText(e.Text) && e.Name == "" && len(e.Value) == 0 && len(e.Attrs) == 0
}

// isMessage tells whether a message or a term may be.
func (q *questions) isMessage(e Entry) bool {
	if e.Level != 0 || e.Text != "" || !scan.IsName(e.Name) || !q.isPattern(e.Value, 0) {
		return false
	}
	for _, a := range e.Attrs {
		if !scan.IsName(a.Name) || !q.isFilled(a.Value, 0) {
			return false
		}
	}
	return len(e.Value) > 0 || e.Type == Message && len(e.Attrs) > 0
}

// isFilled tells whether a pattern may be, and isn't empty.
func (q *questions) isFilled(list []Elem, deep int) bool {
	return len(list) > 0 && q.isPattern(list, deep)
}

// isPattern tells whether a pattern may be, so many braces deep.
func (q *questions) isPattern(list []Elem, deep int) bool {
	var lines strings.Builder
	for i, e := range list {
		place := e.Place
		if place == nil {
			besideText := i > 0 && list[i-1].Place == nil
			if e.Text == "" || !isText(e.Text) || strings.ContainsAny(e.Text, "{}") || besideText {
				return false
			}
			lines.WriteString(e.Text)
			continue
		}
		if e.Text != "" {
			return false
		}
		q.later(func() bool { return q.isInBraces(place, deep+1) })
		lines.WriteByte('{') // no text has that sign
	}
	return len(list) == 0 || areLines(lines.String())
}

// areLines tells whether a pattern's lines may be; a sign in them stands for each place.
func areLines(s string) bool {
	last := len(s) - 1
	if scan.Blank(s, 0) > 0 || scan.Blank(s, last) > last {
		return false
	}
	someFilled, someFlush := false, false
	for at := scan.Line(s, 0) + 1; at < len(s); at = scan.Line(s, at) + 1 {
		if s[at] == '\n' {
			continue
		}
		behind := scan.Spaces(s, at) // within the text: its last sign is no space
		if s[behind] == '\n' || isMark(s[behind]) {
			return false
		}
		someFilled = true
		someFlush = someFlush || behind == at
	}
	// Behind a mark, the lines' own spaces can't be told from those that all of them begin with.
	return !isMark(s[0]) || !someFilled || someFlush
}

// isMark tells whether a sign begins something else where it begins a line.
func isMark(sign byte) bool { return sign == '.' || sign == '*' || sign == '[' }

// isInBraces tells whether an expression may stand in braces, so many of them deep.
func (q *questions) isInBraces(e *Expr, deep int) bool {
	if deep > api.MaxDepth {
		return false
	}
	if e.Kind == Select {
		return q.isSelect(*e, deep)
	}
	return q.isInline(*e, deep)
}

// isInline tells whether an expression that is no Select may be, so many braces deep.
func (q *questions) isInline(e Expr, deep int) bool {
	others, ok := e, false // others: what is left of the fields
	switch e.Kind {
	case Str:
		others.Text = ""
		ok = utf8.ValidString(e.Text)
	case Num:
		others.Text = ""
		ok = isNumber(e.Text)
	case Var:
		others.Name = ""
		ok = scan.IsName(e.Name)
	case Msg:
		others.Name, others.Attr = "", ""
		ok = scan.IsName(e.Name) && (e.Attr == "" || scan.IsName(e.Attr))
	case Term:
		others.Name, others.Args = "", nil
		ok = scan.IsName(e.Name) && q.areArgs(e.Args, deep)
	case Func:
		others.Name, others.Args = "", nil
		ok = scan.IsName(e.Name) && scan.Big(e.Name) && q.areArgs(e.Args, deep)
	case Nest:
		others.Inner = nil
		inner := e.Inner
		ok = inner != nil && q.later(func() bool { return q.isInBraces(inner, deep+1) })
	}
	return ok && isBare(others)
}

// isBare tells whether all fields of an expression but its kind are empty.
func isBare(e Expr) bool {
	return e.Text == "" && e.Name == "" && e.Attr == "" && len(e.Args) == 0 && e.Inner == nil && len(e.Variants) == 0
}

// areArgs tells whether arguments may be: first those without a name, then those with one.
func (q *questions) areArgs(list []Arg, deep int) bool {
	names := map[string]struct{}{}
	for i := range list {
		name, value := list[i].Name, &list[i].Value
		if name == "" {
			if len(names) > 0 {
				return false
			}
			q.later(func() bool { return q.isInline(*value, deep) })
			continue
		}
		_, isTwice := names[name]
		isPlain := value.Kind == Str || value.Kind == Num
		if isTwice || !scan.IsName(name) || !isPlain || !q.isInline(*value, deep) {
			return false
		}
		names[name] = struct{}{}
	}
	return true
}

// isSelect tells whether a Select may be, so many braces deep.
func (q *questions) isSelect(e Expr, deep int) bool {
	defaults := 0
	for _, v := range e.Variants {
		if !scan.IsName(v.Key) && !isNumber(v.Key) || !q.isFilled(v.Value, deep) {
			return false
		}
		if v.Default {
			defaults++
		}
	}
	others := e
	others.Inner, others.Variants = nil, nil
	return defaults == 1 && isBare(others) && e.Inner != nil && q.isAsked(*e.Inner, deep)
}

// isAsked tells whether an expression may be what a Select asks.
func (q *questions) isAsked(e Expr, deep int) bool {
	switch e.Kind {
	case Str, Num, Var, Func:
		return q.isInline(e, deep)
	case Term:
		withoutAttr := e
		withoutAttr.Attr = ""
		return scan.IsName(e.Attr) && q.isInline(withoutAttr, deep)
	}
	return false
}

// isText tells whether a text is made of signs alone, without carriage returns.
func isText(s string) bool { return utf8.ValidString(s) && !strings.Contains(s, "\r") }

func isNumber(s string) bool { return s != "" && scan.Number(s, 0) == len(s) }
