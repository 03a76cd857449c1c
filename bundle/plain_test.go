package bundle_test

import (
	"math/rand/v2"
	"reflect"
	"slices"
	"sort"
	"strings"
	"testing"

	"polyglot/ast"
	"polyglot/entry"
	"polyglot/text"
)

// come is an entry that came to a bundle, and whether it came over others.
type come struct {
	e    ast.Entry
	over bool
}

// plainBundle is a bundle by the chapter's words: all that ever came to it.
type plainBundle []come

// add is Add; it keeps each message and each term.
func (p *plainBundle) add(resource []byte, over bool) ([]string, int) {
	var twice []string
	junk := 0
	for _, e := range entry.Parse(text.Decode(resource)) {
		ahead, isNamed := map[ast.Type]string{ast.Message: "", ast.Entity: "-"}[e.Type]
		if e.Type == ast.Junk {
			junk++
		}
		if !isNamed {
			continue
		}
		if _, ok := p.find(e.Type, e.Name); ok {
			twice = append(twice, ahead+e.Name)
		}
		*p = append(*p, come{e, over})
	}
	return twice, junk
}

// find is the last one of a type and a name that came over others, else the first one.
func (p plainBundle) find(kind ast.Type, name string) (ast.Entry, bool) {
	var first, last *come
	for i := range p {
		c := &p[i]
		if c.e.Type != kind || c.e.Name != name {
			continue
		}
		if first == nil {
			first = c
		}
		if c.over {
			last = c
		}
	}
	switch {
	case last != nil:
		return last.e, true
	case first != nil:
		return first.e, true
	}
	return ast.Entry{}, false
}

func (p plainBundle) names() []string {
	var names []string
	for _, c := range p {
		if c.e.Type == ast.Message && !slices.Contains(names, c.e.Name) {
			names = append(names, c.e.Name)
		}
	}
	sort.Slice(names, func(i, j int) bool { return strings.Compare(names[i], names[j]) < 0 })
	return names
}

// plainAttr is Attr by the chapter's words.
func plainAttr(e ast.Entry, name string) ([]ast.Elem, bool) {
	if name == "" {
		return e.Value, len(e.Value) != 0
	}
	var value []ast.Elem
	has := false
	for _, a := range e.Attrs {
		if a.Name == name {
			value, has = a.Value, true
		}
	}
	return value, has
}

// someResource is any bytes, rich in messages and terms of few names.
func someResource(random *rand.Rand) []byte {
	names := [...]string{"a", "b", "B", "c-1"}
	pieces := [...]string{"# c\n", "?\n", "\n", "\r\n", " ", "{", "}\n", "\xff", "\xe2\x82", "é", "a =\n", "{ $x ->\n *[k] v\n }\n", "{ $x }", "-", "=", " .x = "}
	var b []byte
	for range random.IntN(12) {
		name := names[random.IntN(len(names))]
		value := " = " + names[random.IntN(len(names))] + string(rune('0'+random.IntN(10))) + "\n"
		switch random.IntN(6) {
		case 0, 1:
			b = append(b, name+value...)
		case 2, 3:
			b = append(b, "-"+name+value...)
		case 4:
			b = append(b, " ."+name+value...)
		case 5:
			b = append(b, pieces[random.IntN(len(pieces))]...)
		}
	}
	return b
}

func TestP15_1AgainstThePlainForm(t *testing.T) {
	names := []string{"a", "b", "B", "c-1", "", "-a", "-", "x", "c", "é"}
	met := map[string]int{}
	for seed := range uint64(20_000) {
		random := rand.New(rand.NewPCG(seed, 15))
		b, p := english(t), plainBundle{}
		for range 1 + random.IntN(5) {
			resource, over := someResource(random), random.IntN(2) == 0
			twice, junk := b.Add(resource, over)
			wantTwice, wantJunk := p.add(resource, over)
			if !slices.Equal(twice, wantTwice) || junk != wantJunk {
				t.Fatalf("seed %d: Add(%q, %v) = %q, %d, want %q, %d", seed, resource, over, twice, junk, wantTwice, wantJunk)
			}
			met["twice"] += len(twice)
			met["junk"] += junk
		}
		if got := b.Names(); !slices.Equal(got, p.names()) {
			t.Fatalf("seed %d: %q, want %q", seed, got, p.names())
		}
		for _, name := range names {
			message, isMessage := b.Message(name)
			if want, has := p.find(ast.Message, name); isMessage != has || !reflect.DeepEqual(message, want) {
				t.Fatalf("seed %d: the message %q: %+v, %v, want %+v, %v", seed, name, message, isMessage, want, has)
			}
			term, isTerm := b.Term(name)
			if want, has := p.find(ast.Entity, name); isTerm != has || !reflect.DeepEqual(term, want) {
				t.Fatalf("seed %d: the term %q: %+v, %v, want %+v, %v", seed, name, term, isTerm, want, has)
			}
			for _, asked := range names {
				for _, e := range []ast.Entry{message, term} {
					want, has := plainAttr(e, asked)
					checkAttr(t, e, asked, want, has)
					if has {
						met["attr"]++
					}
				}
			}
		}
		if t.Failed() {
			t.FailNow()
		}
	}
	for what, n := range map[string]int{"twice": 10_000, "junk": 10_000, "attr": 10_000} {
		if met[what] < n {
			t.Errorf("just %d times %s", met[what], what)
		}
	}
}

func TestP15_2AgainstThePlainForm(t *testing.T) {
	random := rand.New(rand.NewPCG(15, 2))
	names := [...]string{"", "a", "b", "ab", "A", "\xff"}
	values := [...][]ast.Elem{nil, {}, of("1"), of("2", variable("v")), of(variable("w"))}
	for range 100_000 {
		e := ast.Entry{Type: ast.Type(random.IntN(5)), Name: names[random.IntN(len(names))], Value: values[random.IntN(len(values))]}
		for range random.IntN(6) {
			e.Attrs = append(e.Attrs, ast.Attr{Name: names[random.IntN(len(names))], Value: values[random.IntN(len(values))]})
		}
		for _, name := range names {
			want, has := plainAttr(e, name)
			checkAttr(t, e, name, want, has)
		}
		if t.Failed() {
			t.FailNow()
		}
	}
}
