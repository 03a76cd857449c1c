package expr

import (
	"strings"

	"polyglot/ast"
	"polyglot/scan"
)

// line is a line of a pattern, with the number of the line feeds and of the spaces ahead of it.
type line struct {
	feeds, spaces int
	parts         []ast.Elem
}

// pattern reads a pattern, so many braces deep.
func (r *reader) pattern(deep int) ([]ast.Elem, bool) {
	var lines []line
	r.pass(scan.Spaces) // none of them counts: the first line has no margin
	var next line
	for goesOn := true; goesOn; next, goesOn = r.nextLine() {
		parts, ok := r.parts(deep + 1)
		if !ok {
			return nil, false
		}
		next.parts = parts
		lines = append(lines, next)
	}
	return join(lines), true
}

// parts reads a line's texts, and its places, so many braces deep.
func (r *reader) parts(deep int) ([]ast.Elem, bool) {
	var list []ast.Elem
	for {
		if plain := r.pass(textEnd); plain != "" {
			list = append(list, ast.Elem{Text: plain})
		}
		if !strings.HasPrefix(r.s[r.at:], "{") {
			return list, true
		}
		e, ok := r.place(deep)
		if !ok {
			return nil, false
		}
		list = append(list, ast.Elem{Place: &e})
	}
}

// textEnd is where a text within a line ends.
func textEnd(s string, i int) int {
	if n := strings.IndexAny(s[i:], "\n{}"); n >= 0 {
		return i + n
	}
	return len(s)
}

// nextLine reads up to where the pattern's next line has its first sign behind spaces; false: there is none, and nothing is read.
func (r *reader) nextLine() (line, bool) {
	feeds, from, at := 0, r.at, r.at
	for strings.HasPrefix(r.s[at:], "\n") {
		feeds++
		from = at + 1
		at = scan.Spaces(r.s, from)
	}
	if at == from || at == len(r.s) || strings.IndexByte(".*[}", r.s[at]) >= 0 {
		return line{}, false
	}
	r.at = at
	return line{feeds: feeds, spaces: at - from}, true
}

// join makes a pattern's lines its elements.
func join(lines []line) []ast.Elem {
	var list []ast.Elem
	var text strings.Builder
	endText := func(plain string) {
		if plain != "" {
			list = append(list, ast.Elem{Text: plain})
		}
		text.Reset()
	}
	least := leastSpaces(lines[1:])
	for _, l := range lines {
		if isFirst := len(list) == 0 && text.Len() == 0; !isFirst {
			text.WriteString(strings.Repeat("\n", l.feeds))
			text.WriteString(strings.Repeat(" ", l.spaces-least))
		}
		for _, p := range l.parts {
			if p.Place == nil {
				text.WriteString(p.Text)
				continue
			}
			endText(text.String())
			list = append(list, p)
		}
	}
	endText(strings.TrimRight(text.String(), " "))
	return list
}

// leastSpaces is how many spaces stand ahead of each of these lines at least.
func leastSpaces(lines []line) int {
	least := 0
	for i, l := range lines {
		if i == 0 || l.spaces < least {
			least = l.spaces
		}
	}
	return least
}
