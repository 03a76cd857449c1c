package entry

import (
	"strings"

	"polyglot/ast"
	"polyglot/scan"
)

const maxLevel = 3

// comment reads a comment's lines; false: the first one is none.
func comment(s string, from int) (ast.Entry, bool) {
	level, words := commentLine(s, from)
	if level == 0 {
		return ast.Entry{}, false
	}
	var texts []string
	to := from
	for next := level; next == level; next, words = commentLine(s, to) {
		texts = append(texts, words)
		to = behindLine(s, to)
	}
	return ast.Entry{Type: ast.Comment, Level: level, Text: strings.Join(texts, "\n"), From: from, To: to}, true
}

// commentLine is a line's level, and its text; 0: it is no comment's.
func commentLine(s string, from int) (int, string) {
	line := s[from:scan.Line(s, from)]
	behind := strings.TrimLeft(line, "#")
	level := len(line) - len(behind)
	words, isParted := strings.CutPrefix(behind, " ")
	if level > maxLevel || behind != "" && !isParted {
		return 0, ""
	}
	return level, words
}
