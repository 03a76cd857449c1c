package entry_test

import (
	"math/rand/v2"
	"regexp"
	"slices"
	"strings"
	"testing"

	"polyglot/ast"
	"polyglot/entry"
	"polyglot/expr"
	"polyglot/text"
)

// What the document says, in forms: what Parse and Texts are held against.
var (
	emptyForm = regexp.MustCompile(`\A(?: *\n| +\z)`)
	headForm  = regexp.MustCompile(`\A(-?)([a-zA-Z][a-zA-Z0-9_-]*) *=`)
	attrForm  = regexp.MustCompile(`\A\n(?: *\n)* +\.([a-zA-Z][a-zA-Z0-9_-]*) *=`)
	junkForm  = regexp.MustCompile(`\A[^\n]*(?:\n(?:[^a-zA-Z#\n-][^\n]*)?)*`)
	gapForm   = regexp.MustCompile(`\A(?: *\n)* *\z`)

	commentForms = []*regexp.Regexp{
		regexp.MustCompile(`\A(?:#(?: [^\n]*)?(?:\n|\z))+`),
		regexp.MustCompile(`\A(?:##(?: [^\n]*)?(?:\n|\z))+`),
		regexp.MustCompile(`\A(?:###(?: [^\n]*)?(?:\n|\z))+`),
	}
	marksForm = regexp.MustCompile(`(?m)^#+ ?`)
)

func plainParse(s string) []ast.Entry {
	var list []ast.Entry
	for at := 0; at < len(s); {
		if n := len(emptyForm.FindString(s[at:])); n > 0 {
			at += n
			continue
		}
		e := plainEntry(s, at)
		list = append(list, e)
		at = e.To
	}
	return list
}

func plainEntry(s string, from int) ast.Entry {
	for i, form := range commentForms {
		if all := form.FindString(s[from:]); all != "" {
			words := strings.TrimSuffix(all, "\n")
			for _, line := range slices.Backward(marksForm.FindAllStringIndex(words, -1)) {
				end := min(line[1], line[0]+i+2) // no more than its own marks and a space
				words = words[:line[0]] + words[end:]
			}
			return ast.Entry{Type: ast.Comment, Level: i + 1, Text: words, From: from, To: from + len(all)}
		}
	}
	if e, ok := plainMessage(s, from); ok {
		return e
	}
	all := junkForm.FindString(s[from:])
	return ast.Entry{Type: ast.Junk, Text: all, From: from, To: from + len(all)}
}

func plainMessage(s string, from int) (ast.Entry, bool) {
	head := headForm.FindStringSubmatch(s[from:])
	if head == nil {
		return ast.Entry{}, false
	}
	value, end, ok := plainPattern(s, from+len(head[0]))
	if !ok {
		return ast.Entry{}, false
	}
	e := ast.Entry{Type: ast.Message, Name: head[2], Value: value, From: from}
	for {
		m := attrForm.FindStringSubmatch(s[end:])
		if m == nil {
			break
		}
		value, next, ok := plainPattern(s, end+len(m[0]))
		if !ok || len(value) == 0 {
			break
		}
		e.Attrs = append(e.Attrs, ast.Attr{Name: m[1], Value: value})
		end = next
	}
	e.To = min(end+1, len(s))
	if head[1] == "-" {
		e.Type = ast.Entity
		return e, len(e.Value) > 0
	}
	return e, len(e.Value)+len(e.Attrs) > 0
}

func plainPattern(s string, i int) ([]ast.Elem, int, bool) {
	value, end, ok := expr.Pattern(s, i)
	return value, end, ok && (s + "\n")[end] == '\n'
}

// checkText holds Parse and Texts against the plain form; it counts the entries of each type.
func checkText(t *testing.T, s string, types map[ast.Type]int) {
	t.Helper()
	list := entry.Parse(s)
	checkSame(t, s, list, plainParse(s))
	checkTexts(t, s, list)
	for _, e := range list {
		types[e.Type]++
		if e.Type == ast.Message && len(e.Attrs) > 0 {
			types[withAttrs]++
		}
	}
	if t.Failed() {
		t.FailNow()
	}
}

// withAttrs counts messages with attributes.
const withAttrs = ast.Type(99)

// checkTexts tells whether entries, and lines of spaces between them, are all of a text.
func checkTexts(t *testing.T, s string, list []ast.Entry) {
	t.Helper()
	var want []string
	at := 0
	for _, e := range append(list[:len(list):len(list)], ast.Entry{From: len(s), To: len(s)}) {
		gap := s[at:e.From]
		if !gapForm.MatchString(gap) || gap != "" && e.From < len(s) && !strings.HasSuffix(gap, "\n") {
			t.Errorf("%s: between entries stands %q", shorten(s), gap)
		}
		if gap != "" {
			want = append(want, gap)
		}
		if e.From < e.To {
			want = append(want, s[e.From:e.To])
		}
		at = e.To
	}
	if got := entry.Texts(s, list); !slices.Equal(got, want) || strings.Join(got, "") != s {
		t.Errorf("Texts(%s): %q, want %q", shorten(s), got, want)
	}
}

// checkTypes tells whether there were so many entries of each type, so that a test is of all of them.
func checkTypes(t *testing.T, types map[ast.Type]int, least int, wanted ...ast.Type) {
	t.Helper()
	for _, k := range wanted {
		if types[k] < least {
			t.Errorf("just %d entries of type %d", types[k], k)
		}
	}
}

func TestP9_1P9_2AllShort(t *testing.T) {
	for _, c := range []struct {
		ahead  string
		size   int
		pieces []string
		wanted []ast.Type
	}{
		{"", 7, []string{"#", " ", "\n", "a"}, []ast.Type{ast.Comment, ast.Junk}},
		{"", 6, []string{"# a", "## b", "\n", "#", " "}, []ast.Type{ast.Comment, ast.Junk}},
		{"", 7, []string{"a", "-", "=", " ", "\n"}, []ast.Type{ast.Message, ast.Entity, ast.Junk}},
		{"a = 1", 7, []string{".b", "=", " ", "\n", "2"}, []ast.Type{ast.Message, ast.Junk, withAttrs}},
		{"a =", 7, []string{"\n .b", "= 2", " ", "\n", "}"}, []ast.Type{ast.Message, ast.Junk, withAttrs}},
		{"-a =", 6, []string{"\n .b =", " 2", "\n", "{1}", "{"}, []ast.Type{ast.Entity, ast.Junk}},
		{"", 5, []string{"# a\n", "a = 1", "\n .b = 2", "\n", " ", "?", "-c =\n 3"}, []ast.Type{ast.Comment, ast.Message, ast.Entity, ast.Junk, withAttrs}},
		{"?\n", 6, []string{"\n", " ", "a = 1", "-a", "#", "é"}, []ast.Type{ast.Message, ast.Comment, ast.Junk}},
	} {
		types := map[ast.Type]int{}
		all := []string{""}
		for n := range c.size + 1 {
			var longer []string
			for _, s := range all {
				checkText(t, c.ahead+s, types)
				for _, p := range c.pieces {
					if n < c.size {
						longer = append(longer, s+p)
					}
				}
			}
			all = longer
		}
		checkTypes(t, types, 50, c.wanted...)
	}
}

// TestP2AnyBytes is of any bytes: all of their text is entries, and lines of spaces between them.
func TestP2AnyBytes(t *testing.T) {
	pieces := []string{"a", "-t", "a = 1", "-t = 2", "\n .b = 3", "\n .b = 3", "a =\n\n  .c=4\n", " = ", "=", "\n", "\n", "\n\n", " ", "\n  ", "# c\n", "## d", "###\n", "#", ".", "{", "}", "{ $x }", "{ $x ->\n  *[k] v\n}", "{F(1, o: 2)}", "\"s\"", "\r\n", "\r", "\xff", "\xe2\x82", "é", "\t", "\x00", "*", "[", "1"}
	types := map[ast.Type]int{}
	for seed := range uint64(60_000) {
		random := rand.New(rand.NewPCG(seed, 2))
		var b []byte
		for range random.IntN(24) {
			if random.IntN(20) == 0 {
				b = append(b, byte(random.IntN(256)))
			} else {
				b = append(b, pieces[random.IntN(len(pieces))]...)
			}
		}
		checkText(t, text.Decode(b), types)
	}
	checkTypes(t, types, 1000, ast.Comment, ast.Message, ast.Entity, ast.Junk, withAttrs)
}
