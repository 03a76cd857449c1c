package bundle_test

import (
	"fmt"
	"math"
	"reflect"
	"slices"
	"strconv"
	"strings"
	"testing"

	"polyglot/ast"
	"polyglot/bundle"
	"polyglot/entry"
	"polyglot/tag"
	"polyglot/text"
)

func parsed(t *testing.T, s string) tag.Tag {
	t.Helper()
	x, ok := tag.Parse(s)
	if !ok {
		t.Fatalf("%q tells no tag", s)
	}
	return x
}

// sameTags tells whether two tags have the same fields; no variants may be nil or empty.
func sameTags(a, b tag.Tag) bool {
	return a.Lang == b.Lang && a.Script == b.Script && a.Region == b.Region && slices.Equal(a.Variants, b.Variants)
}

func english(t *testing.T) *bundle.Bundle {
	t.Helper()
	return bundle.New(parsed(t, "en"))
}

// of is a pattern of texts and of places.
func of(parts ...any) []ast.Elem {
	var list []ast.Elem
	for _, p := range parts {
		switch x := p.(type) {
		case string:
			list = append(list, ast.Elem{Text: x})
		case ast.Expr:
			list = append(list, ast.Elem{Place: &x})
		}
	}
	return list
}

func variable(name string) ast.Expr { return ast.Expr{Kind: ast.Var, Name: name} }

// brief is an entry's texts: its value, and each attribute behind a point and its name.
func brief(e ast.Entry) string {
	var out strings.Builder
	for _, v := range e.Value {
		out.WriteString(v.Text)
	}
	for _, a := range e.Attrs {
		out.WriteString(" ." + a.Name + "=")
		for _, v := range a.Value {
			out.WriteString(v.Text)
		}
	}
	return strings.TrimSpace(out.String())
}

// all is what a bundle has: its messages, in order, and its terms of the names that are asked.
func all(t *testing.T, b *bundle.Bundle, terms ...string) string {
	t.Helper()
	var out []string
	for _, name := range b.Names() {
		e, ok := b.Message(name)
		if !ok || e.Type != ast.Message || e.Name != name {
			t.Errorf("%s is among the names; the message: %+v, %v", name, e, ok)
		}
		out = append(out, name+": "+brief(e))
	}
	for _, name := range terms {
		e, ok := b.Term(name)
		if !ok {
			continue
		}
		if e.Type != ast.Entity || e.Name != name {
			t.Errorf("the term %s: %+v", name, e)
		}
		out = append(out, "-"+name+": "+brief(e))
	}
	return strings.Join(out, "; ")
}

// shorten is what a test says, or the beginning of it, if it is long.
func shorten(s string) string {
	if len(s) > 2000 {
		return s[:2000] + " and more"
	}
	return s
}

// added is a resource that is added, and what is told of it.
type added struct {
	resource string
	over     bool
	twice    string // the names, with a space between
	junk     int
}

func checkAdd(t *testing.T, b *bundle.Bundle, a added) {
	t.Helper()
	twice, junk := b.Add([]byte(a.resource), a.over)
	if strings.Join(twice, " ") != a.twice || len(twice) != len(strings.Fields(a.twice)) || junk != a.junk {
		t.Errorf("%s", shorten(fmt.Sprintf("Add = %q, %d, want %q, %d, of %v, %q", twice, junk, a.twice, a.junk, a.over, a.resource)))
	}
}

// checkNone tells whether there is nothing by a name, and what is told is zero.
func checkNone(t *testing.T, b *bundle.Bundle, names ...string) {
	t.Helper()
	for _, name := range names {
		if e, ok := b.Message(name); ok || !reflect.DeepEqual(e, ast.Entry{}) {
			t.Errorf("the message %q: %+v, %v", name, e, ok)
		}
		if e, ok := b.Term(name); ok || !reflect.DeepEqual(e, ast.Entry{}) {
			t.Errorf("the term %q: %+v, %v", name, e, ok)
		}
	}
}

func TestP15_1New(t *testing.T) {
	for _, s := range []string{"en", "zh-hant-tw", "de-1996", "sl-Latn-IT-rozaj-biske-1994", "es-419"} {
		b := bundle.New(parsed(t, s))
		if !sameTags(b.Tag(), parsed(t, s)) || b.Tag().String() != parsed(t, s).String() {
			t.Errorf("of %s: %+v", s, b.Tag())
		}
		if len(b.Names()) != 0 {
			t.Errorf("of %s: %q", s, b.Names())
		}
		checkNone(t, b, "", "a", "-a", s)
	}
}

func TestP15_1TagStays(t *testing.T) {
	mine := parsed(t, "sl-rozaj-biske")
	b := bundle.New(mine)
	mine.Variants[0] = "other"
	told := b.Tag()
	told.Variants[1] = "other"
	told.Lang = "de"
	b.Add([]byte("a = 1\n-b = 2"), true)
	if b.Tag().String() != "sl-rozaj-biske" {
		t.Errorf("it came to be %s", b.Tag())
	}
	if mine.String() != "sl-other-biske" {
		t.Errorf("what was handed in came to be %s", mine)
	}
}

func TestP15_1AnyTag(t *testing.T) {
	for _, x := range []tag.Tag{{}, {Variants: []string{}}, {Lang: "?", Region: "x y"}, {Script: "\xff", Variants: []string{"", "a", "a"}}} {
		b := bundle.New(x)
		checkAdd(t, b, added{"a = 1\na = 2", false, "a", 0})
		if !sameTags(b.Tag(), x) || all(t, b) != "a: 1" {
			t.Errorf("of %+v: %+v, %s", x, b.Tag(), all(t, b))
		}
	}
}

func TestP15_1Add(t *testing.T) {
	for _, x := range []struct {
		adds []added
		want string
	}{
		{[]added{{"a = 1\na = 2\n-a = 3", false, "a", 0}}, "a: 1; -a: 3"},
		{[]added{{"a = 1\na = 2\n-a = 3", true, "a", 0}}, "a: 2; -a: 3"},
		{[]added{{"-a = 3\na = 1", false, "", 0}}, "a: 1; -a: 3"},
		{[]added{{"-a = 1\n-a = 2", false, "-a", 0}}, "-a: 1"},
		{[]added{{"-a = 1\n-a = 2", true, "-a", 0}}, "-a: 2"},
		{[]added{{"-a = 1\na = 2\n-a = 3\na = 4", false, "-a a", 0}}, "a: 2; -a: 1"},
		{[]added{{"-a = 1\na = 2\na = 4\n-a = 3", true, "a -a", 0}}, "a: 4; -a: 3"},
		{[]added{{"a = 1\na = 2\na = 3\na = 4", false, "a a a", 0}}, "a: 1"},
		{[]added{{"a = 1\na = 2\na = 3\na = 4", true, "a a a", 0}}, "a: 4"},
		{[]added{{"b = 1\na = 2\na = 3\nb = 4\nc = 5\na = 6", true, "a b a", 0}}, "a: 6; b: 4; c: 5"},
		{[]added{{"a = 1\nA = 2\na- = 3\na_ = 4\na1 = 5\nab = 6", false, "", 0}}, "A: 2; a: 1; a-: 3; a1: 5; a_: 4; ab: 6"},
		{[]added{{"a = same\na = same", false, "a", 0}}, "a: same"},

		{[]added{{"a = 1", false, "", 0}, {"a = 2", false, "a", 0}}, "a: 1"},
		{[]added{{"a = 1", true, "", 0}, {"a = 2", false, "a", 0}}, "a: 1"},
		{[]added{{"a = 1", false, "", 0}, {"a = 2", true, "a", 0}}, "a: 2"},
		{[]added{{"a = 1", false, "", 0}, {"a = 2", true, "a", 0}, {"a = 3", false, "a", 0}}, "a: 2"},
		{[]added{{"a = 1", true, "", 0}, {"a = 2", true, "a", 0}, {"a = 3", true, "a", 0}}, "a: 3"},
		{[]added{{"-a = 1", false, "", 0}, {"a = 2", false, "", 0}, {"-a = 3", true, "-a", 0}}, "a: 2; -a: 3"},
		{[]added{{"a = 1\nb = 2\n-c = 3", false, "", 0}, {"c = 4\n-c = 5\nb = 6\nd = 7", true, "-c b", 0}}, "a: 1; b: 6; c: 4; d: 7; -c: 5"},
		{[]added{{"a = 1\n", false, "", 0}, {"a = 1\n", false, "a", 0}, {"", true, "", 0}}, "a: 1"},

		{[]added{{"a = 1\n .x = 2\n .y = 3", false, "", 0}, {"a = 4\n .z = 5", true, "a", 0}}, "a: 4 .z=5"},
		{[]added{{"a = 1\n .x = 2\n .y = 3", false, "", 0}, {"a = 4\n .z = 5", false, "a", 0}}, "a: 1 .x=2 .y=3"},
		{[]added{{"a =\n .x = 2", false, "", 0}, {"a = 4", false, "a", 0}}, "a: .x=2"},
		{[]added{{"a = 1", false, "", 0}, {"a =\n .x = 2", true, "a", 0}}, "a: .x=2"},
		{[]added{{"a = 1\n .x = 2\n .x = 3", false, "", 0}}, "a: 1 .x=2 .x=3"},
		{[]added{{"-a = 1\n .x = 2", false, "", 0}, {"-a = 3", true, "-a", 0}}, "-a: 3"},
	} {
		b := english(t)
		for _, a := range x.adds {
			checkAdd(t, b, a)
		}
		if got := all(t, b, "a", "b", "c", "d"); got != x.want {
			t.Errorf("of %+v: %s, want %s", x.adds, got, x.want)
		}
	}
}

func TestP15_1Junk(t *testing.T) {
	for _, x := range []struct {
		a    added
		want string
	}{
		{added{"", false, "", 0}, ""},
		{added{"\n   \n\n ", false, "", 0}, ""},
		{added{"# a = 1\n## b = 2\n### c", true, "", 0}, ""},
		{added{"?", false, "", 1}, ""},
		{added{"?\n?\n\n?", false, "", 1}, ""},
		{added{"?\na = 1\n?\n}\nb = 2\n{", false, "", 3}, "a: 1; b: 2"},
		{added{"a =\n-b =\n-c =\n .x = 1\nd", true, "", 4}, ""},
		{added{"a = 1\na = {\na = 2", false, "a", 1}, "a: 1"},
		{added{"a = 1\na = {\na = 2", true, "a", 1}, "a: 2"},
		{added{"a = {\na = 1", false, "", 1}, "a: 1"},
		{added{"a = 1\n# c\n.b\n# d\n?\n", false, "", 2}, "a: 1"},
		{added{"#### a\n#b", false, "", 2}, ""},
		{added{" a = 1", false, "", 1}, ""},
		{added{"a = 1\r\nb\r = 2\rc = 3\r\n\r\n}\r", true, "", 1}, "a: 1; b: 2c = 3"},
		{added{"\r", false, "", 0}, ""},
		{added{"a = \xff\nb\xc3 = 2\n\xe2\x82", false, "", 1}, "a: \uFFFD"},
		{added{"a = é\xc3\rb = 漢", false, "", 0}, "a: é\uFFFDb = 漢"},
		{added{"\uFEFFa = 1\nb = 2", false, "", 1}, "b: 2"},
		{added{"a = 1\nc =\n  .d = 2\n.b\n", false, "", 1}, "a: 1; c: .d=2"},
	} {
		b := english(t)
		checkAdd(t, b, x.a)
		if got := all(t, b, "a", "b", "c", "d"); got != x.want {
			t.Errorf("of %q: %s, want %s", x.a.resource, got, x.want)
		}
	}
	for range 2 {
		checkAdd(t, english(t), added{resource: "?\na = 1\n?", junk: 2})
	}
	b := english(t)
	if twice, junk := b.Add(nil, true); len(twice) != 0 || junk != 0 || len(b.Names()) != 0 {
		t.Errorf("Add(nil) = %q, %d, with %q there", twice, junk, b.Names())
	}
}

// TestP15_1AsParsed is of messages and terms with all that they may have, also the places where they stand.
func TestP15_1AsParsed(t *testing.T) {
	const resource = "# c\n\nb = { $x } y\n  z\n .k = { F(1, o: \"s\") }\n .k = w\n?\n-b = { $x ->\n  *[one] v\n }\n .k = 2\nc =\n .d = 3"
	b := english(t)
	checkAdd(t, b, added{"b = 0\n .k = 1\n-b = 1", false, "", 0})
	checkAdd(t, b, added{"# 1\r\n" + strings.ReplaceAll(resource, "\n", "\r\n"), true, "b -b", 1})
	list := entry.Parse(text.Decode([]byte("# 1\n" + resource)))
	if len(list) != 5 || list[1].From != 9 || list[4].To != len("# 1\n"+resource) {
		t.Fatalf("%+v", list)
	}
	if e, ok := b.Message("b"); !ok || !reflect.DeepEqual(e, list[1]) || len(e.Value) != 2 || len(e.Attrs) != 2 {
		t.Errorf("the message b: %+v, %v", e, ok)
	}
	if e, ok := b.Term("b"); !ok || !reflect.DeepEqual(e, list[3]) || len(e.Attrs) != 1 {
		t.Errorf("the term b: %+v, %v", e, ok)
	}
	if e, ok := b.Message("c"); !ok || !reflect.DeepEqual(e, list[4]) || len(e.Value) != 0 {
		t.Errorf("the message c: %+v, %v", e, ok)
	}
	checkNone(t, b, "d", "k", "1")
}

func TestP15_1OtherNames(t *testing.T) {
	b := english(t)
	checkAdd(t, b, added{"a = 1\n .x = 2\n-b = 3\n .y = 4\n# c\n?", false, "", 1})
	checkNone(t, b, "", "-", "-a", "-b", "--b", "A", "B", "a ", " a", "a.x", "b.y", ".x", "x", "y", "c", "?", "$a", "a\x00", "\xff", strings.Repeat("a", 1000))
	if e, ok := b.Term("a"); ok || !reflect.DeepEqual(e, ast.Entry{}) {
		t.Errorf("the message is a term: %+v", e)
	}
	if e, ok := b.Message("b"); ok || !reflect.DeepEqual(e, ast.Entry{}) {
		t.Errorf("the term is a message: %+v", e)
	}
}

func TestP15_1Names(t *testing.T) {
	want := []string{"A", "A-", "A1", "AZ", "A_", "Aa", "B", "Z", "a", "a-", "a--a", "a-a", "a0", "a10", "a9", "aA", "aZ", "a_", "aa", "ab", "b", "z", "zzz"}
	for step := range len(want) { // in many orders
		b := english(t)
		for k := range want {
			name := want[(k*(step+1)+step)%len(want)]
			b.Add([]byte(name+" = 1\n-t"+name+" = 2\n?"), k%2 == 0)
			if !slices.Contains(b.Names(), name) {
				t.Fatalf("%s isn't among %q", name, b.Names())
			}
		}
		for _, name := range want { // where the steps didn't meet it
			b.Add([]byte("-t = 1\n"+name+" = 3"), false)
		}
		if got := b.Names(); !slices.Equal(got, want) {
			t.Errorf("%q, want %q", got, want)
		}
		slices.Reverse(b.Names())
		clear(b.Names())
		if got := b.Names(); !slices.Equal(got, want) {
			t.Errorf("they came to be %q", got)
		}
	}
}

func TestP15_1NothingHandedInIsKept(t *testing.T) {
	b := english(t)
	resource := []byte("a = text { \"s\" }\n .x = y\n-b = more\na = z")
	given := string(resource)
	twice, _ := b.Add(resource, false)
	if string(resource) != given {
		t.Errorf("it came to be %q", resource)
	}
	for i := range resource {
		resource[i] = '?'
	}
	if e, _ := b.Message("a"); e.Name != "a" || brief(e) != "text  .x=y" || e.Value[1].Place.Text != "s" {
		t.Errorf("the message came to be %+v", e)
	}
	if !slices.Equal(b.Names(), []string{"a"}) || all(t, b, "b") != "a: text  .x=y; -b: more" {
		t.Errorf("there came to be %s", all(t, b, "b"))
	}
	b.Add([]byte("a = 1\n-b = 1\na = 2"), true)
	if !slices.Equal(twice, []string{"a"}) {
		t.Errorf("what was told came to be %q", twice)
	}
}

func TestP15_1EachForItself(t *testing.T) {
	one, other := english(t), english(t)
	checkAdd(t, one, added{"a = 1\n-b = 2", false, "", 0})
	checkNone(t, other, "a", "b")
	checkAdd(t, other, added{"a = 3\n-b = 4", false, "", 0})
	old, _ := one.Message("a")
	checkAdd(t, one, added{"a = 5", true, "a", 0})
	if all(t, one, "b") != "a: 5; -b: 2" || all(t, other, "b") != "a: 3; -b: 4" || brief(old) != "1" {
		t.Errorf("%s and %s, and %s was told", all(t, one, "b"), all(t, other, "b"), brief(old))
	}
}

// TestP15_1NotOfNew is of a Bundle that New didn't make: no call of it panics.
func TestP15_1NotOfNew(t *testing.T) {
	var b bundle.Bundle
	checkNone(t, &b, "", "a")
	if !sameTags(b.Tag(), tag.Tag{}) || len(b.Names()) != 0 {
		t.Errorf("%+v, %q", b.Tag(), b.Names())
	}
	checkAdd(t, &b, added{"a = 1\n-a = 2\na = 3\n?", true, "a", 1})
	if got := all(t, &b, "a"); got != "a: 3; -a: 2" {
		t.Errorf("%s", got)
	}
}

func TestP15_1Many(t *testing.T) {
	const count = 100_000
	var s strings.Builder
	for i := range count {
		n := strconv.Itoa(i)
		s.WriteString("m" + n + " = " + n + "\n-m" + n + " = -" + n + "\n?\n")
	}
	b := english(t)
	checkAdd(t, b, added{s.String(), false, "", count})
	twice, junk := b.Add([]byte(s.String()), true)
	if len(twice) != 2*count || twice[2] != "m1" || twice[3] != "-m1" || junk != count {
		t.Errorf("%d names, %d junk", len(twice), junk)
	}
	names := b.Names()
	if len(names) != count || !slices.IsSorted(names) || len(slices.Compact(names)) != count {
		t.Errorf("%d names", len(names))
	}
	for i := range count {
		n := strconv.Itoa(i)
		m, _ := b.Message("m" + n)
		term, _ := b.Term("m" + n)
		if brief(m) != n || brief(term) != "-"+n {
			t.Fatalf("of %s: %s, %s", n, brief(m), brief(term))
		}
	}
}

func checkAttr(t *testing.T, e ast.Entry, name string, want []ast.Elem, has bool) {
	t.Helper()
	got, ok := bundle.Attr(e, name)
	same := len(got) == 0 && len(want) == 0 || reflect.DeepEqual(got, want)
	if ok != has || !same {
		t.Errorf("%s", shorten(fmt.Sprintf("Attr of %q = %+v, %v, want %+v, %v, of %+v", name, got, ok, want, has, e)))
	}
}

func TestP15_2Attr(t *testing.T) {
	b := english(t)
	b.Add([]byte("a = 1\nb =\n .x = 2\nc = 3{ $v }\n .x = 4\n .y = 5{ $v }6\n .x = 7\n .X = 8\n-t = 9\n .x = 10\n-t2 = 11"), false)
	for _, x := range []struct {
		message, name string
		want          []ast.Elem
	}{
		{"a", "", of("1")}, {"a", "x", nil}, {"a", "a", nil}, {"a", "1", nil},
		{"b", "", nil}, {"b", "x", of("2")}, {"b", "X", nil}, {"b", ".x", nil}, {"b", "b", nil}, {"b", "x ", nil}, {"b", "b.x", nil},
		{"c", "", of("3", variable("v"))}, {"c", "x", of("7")}, {"c", "y", of("5", variable("v"), "6")}, {"c", "X", of("8")}, {"c", "z", nil}, {"c", "xy", nil}, {"c", "\xff", nil},
	} {
		e, ok := b.Message(x.message)
		if !ok {
			t.Fatalf("no %s", x.message)
		}
		checkAttr(t, e, x.name, x.want, x.want != nil)
	}
	term, _ := b.Term("t")
	checkAttr(t, term, "", of("9"), true)
	checkAttr(t, term, "x", of("10"), true)
	checkAttr(t, term, "y", nil, false)
	term, _ = b.Term("t2")
	checkAttr(t, term, "", of("11"), true)
	checkAttr(t, term, "x", nil, false)
}

// TestP15_2AnyEntry is of entries such as nothing is read as.
func TestP15_2AnyEntry(t *testing.T) {
	checkAttr(t, ast.Entry{}, "", nil, false)
	checkAttr(t, ast.Entry{}, "x", nil, false)
	checkAttr(t, ast.Entry{Value: []ast.Elem{}, Attrs: []ast.Attr{}}, "", nil, false)
	checkAttr(t, ast.Entry{Name: "x", Text: "x"}, "x", nil, false)

	unnamed := ast.Entry{Type: ast.Junk, Attrs: []ast.Attr{{Name: "", Value: of("1")}}}
	checkAttr(t, unnamed, "", nil, false)
	unnamed.Value = of("2")
	checkAttr(t, unnamed, "", of("2"), true)

	for _, kind := range []ast.Type{ast.Comment, ast.Message, ast.Entity, ast.Junk, -1, math.MaxInt} {
		e := ast.Entry{Type: kind, Value: of("v"), Attrs: []ast.Attr{
			{Name: "x", Value: of("1")}, {Name: "x", Value: nil}, {Name: "y", Value: []ast.Elem{}}, {Name: "y", Value: of(variable("2"))},
			{Name: "\xff", Value: of("3")}, {Name: "a b", Value: []ast.Elem{{}}},
		}}
		checkAttr(t, e, "", of("v"), true)
		checkAttr(t, e, "x", nil, true) // the last one, though it is empty
		checkAttr(t, e, "y", of(variable("2")), true)
		checkAttr(t, e, "\xff", of("3"), true)
		checkAttr(t, e, "\uFFFD", nil, false)
		checkAttr(t, e, "a b", []ast.Elem{{}}, true)
		checkAttr(t, e, "a", nil, false)
	}
}

func TestP15_2SharesNoList(t *testing.T) {
	room := append(make([]ast.Elem, 0, 9), of("1", variable("v"))...)
	e := ast.Entry{Value: room, Attrs: []ast.Attr{{Name: "x", Value: room[:1]}}}
	value, _ := bundle.Attr(e, "")
	attr, _ := bundle.Attr(e, "x")
	_ = append(attr, ast.Elem{Text: "other"})
	value[0].Text = "other"
	if brief(e) != "1 .x=1" || e.Value[1].Place == nil {
		t.Errorf("it came to be %+v", e)
	}
	room[0].Text = "another"
	if attr[0].Text != "1" || value[0].Text != "other" {
		t.Errorf("what was told came to be %+v and %+v", value, attr)
	}
}

func TestP15_2ManyAttrs(t *testing.T) {
	const count = 50_000
	var s strings.Builder
	s.WriteString("a =\n")
	for i := range count {
		s.WriteString("\n .x" + strconv.Itoa(i%100) + " = " + strconv.Itoa(i))
	}
	b := english(t)
	checkAdd(t, b, added{s.String(), false, "", 0})
	e, _ := b.Message("a")
	for i := range 100 {
		checkAttr(t, e, "x"+strconv.Itoa(i), of(strconv.Itoa(count-100+i)), true)
	}
	checkAttr(t, e, "x100", nil, false)
	checkAttr(t, e, "", nil, false)
}
