package resolve_test

import (
	"math/rand/v2"
	"slices"
	"strconv"
	"strings"
	"testing"

	"polyglot/api"
	"polyglot/ast"
	"polyglot/bundle"
	"polyglot/dec"
	"polyglot/entry"
	"polyglot/moment"
	"polyglot/number"
	"polyglot/resolve"
	"polyglot/serial"
	"polyglot/tag"
	"polyglot/text"
	"polyglot/value"
)

// plain is a second form of the document: what it says, case by case.
type plain struct {
	b      *bundle.Bundle
	lang   string
	places int
	wrong  []string
}

// had is a value, or the name that stands in its stead.
type had struct {
	v    value.Value
	name string
}

type values = map[string]value.Value

func plainFormat(b *bundle.Bundle, lang, name, attr string, args values) (string, string, bool) {
	p := &plain{b: b, lang: lang}
	e, isThere := b.Message(name)
	list, has := bundle.Attr(e, attr)
	if !isThere || !has {
		return "", "", false
	}
	whole := name
	if attr != "" {
		whole += "." + attr
	}
	return p.pattern([]string{whole}, list, args), strings.Join(p.wrong, "; "), true
}

// pattern is a pattern as a text, path the names of those that are being written.
func (p *plain) pattern(path []string, list []ast.Elem, args values) string {
	out := ""
	for _, e := range list {
		out += e.Text
		if e.Place != nil {
			out += p.place(path, *e.Place, args)
		}
	}
	return out
}

func (p *plain) place(path []string, e ast.Expr, args values) string {
	p.places++
	if p.places > 100 {
		if p.places == 101 {
			p.wrong = append(p.wrong, "TooMany ?")
		}
		return "{?}"
	}
	h := p.value(path, e, args)
	out := "{" + h.name + "}"
	if h.name == "" {
		out = h.v.String(&number.Marks{}, p.lang)
	}
	if len([]rune(out)) > 2500 {
		p.wrong = append(p.wrong, "TooLong ?")
		return "{?}"
	}
	return out
}

func (p *plain) none(code, name string) had {
	p.wrong = append(p.wrong, code+" "+name)
	return had{name: name}
}

func (p *plain) value(path []string, e ast.Expr, args values) had {
	switch e.Kind {
	case ast.Str:
		return had{v: value.Str(e.Text)}
	case ast.Num:
		return had{v: value.Written(e.Text)}
	case ast.Var:
		v, ok := args[e.Name]
		if !ok {
			return p.none("NoVar", "$"+e.Name)
		}
		return had{v: v}
	case ast.Nest:
		return had{v: value.Str(p.place(path, *e.Inner, args))}
	case ast.Select:
		return had{v: value.Str(p.chosen(path, e, args))}
	case ast.Msg:
		m, ok := p.b.Message(e.Name)
		return p.other(path, e, "", m, ok, "NoMessage", args)
	case ast.Term:
		own := values{}
		for _, a := range e.Args {
			if a.Name != "" {
				own[a.Name] = p.value(nil, a.Value, nil).v
			}
		}
		m, ok := p.b.Term(e.Name)
		return p.other(path, e, "-", m, ok, "NoTerm", own)
	}
	return p.function(path, e, args)
}

func (p *plain) chosen(path []string, e ast.Expr, args values) string {
	h := p.value(path, *e.Inner, args)
	which := slices.IndexFunc(e.Variants, func(v ast.Variant) bool { return h.name == "" && h.v.Is(v.Key, p.lang) })
	if which < 0 {
		which = slices.IndexFunc(e.Variants, func(v ast.Variant) bool { return v.Default })
	}
	return p.pattern(path, e.Variants[which].Value, args)
}

func (p *plain) other(path []string, e ast.Expr, ahead string, m ast.Entry, ok bool, code string, args values) had {
	name := ahead + e.Name
	if e.Attr != "" {
		name += "." + e.Attr
	}
	if !ok {
		return p.none(code, name)
	}
	list, has := bundle.Attr(m, e.Attr)
	switch {
	case !has:
		return p.none("NoValue", name)
	case slices.Contains(path, name):
		return p.none("Cyclic", name)
	}
	return had{v: value.Str(p.pattern(append(slices.Clone(path), name), list, args))}
}

func (p *plain) function(path []string, e ast.Expr, args values) had {
	name := e.Name + "()"
	nameless := 0
	for _, a := range e.Args {
		if a.Name == "" {
			nameless++
		}
	}
	switch {
	case e.Name != "NUMBER" && e.Name != "DATETIME":
		return p.none("NoFunc", name)
	case nameless != 1 || e.Args[0].Name != "":
		return p.none("BadArg", name)
	}
	h := p.value(path, e.Args[0].Value, args)
	if h.name != "" {
		return had{name: name}
	}
	kind := map[string]value.Kind{"NUMBER": value.Number, "DATETIME": value.Moment}[e.Name]
	if h.v.Kind != kind {
		return p.none("BadArg", name)
	}
	for _, a := range e.Args[1:] {
		to := p.value(nil, a.Value, nil).v
		if kind == value.Moment {
			style, ok := moment.Parse(to.Text)
			if a.Name != "style" || to.Kind != value.Text || !ok {
				return p.none("BadArg", name)
			}
			h.v.Style = style
			continue
		}
		o, err := h.v.Opts.Set(a.Name, to.Text, to.Num, to.Kind == value.Text)
		if err != api.OK {
			return p.none("BadArg", name)
		}
		h.v.Opts = o
	}
	return h
}

func pick[T any](random *rand.Rand, list ...T) T { return list[random.IntN(len(list))] }

// someName is a message's or a term's name; later and later ones, if they may not make rings.
func someName(random *rand.Rand, from int) string {
	return "m" + strconv.Itoa(from+random.IntN(6-from))
}

// some writes expressions at random, in a message of that number; those of earlier ones aren't asked, if rings may not be.
type some struct {
	random *rand.Rand
	from   int
}

func (s some) pattern(deep int) string {
	out := pick(s.random, "a", "é", "b c", "")
	for range 1 + s.random.IntN(3) {
		out += s.place(deep) + pick(s.random, "", "", " ", "x", ". ")
	}
	if s.random.IntN(12) == 0 {
		out += strings.Repeat(s.place(1), 1+s.random.IntN(40))
	}
	return strings.TrimSpace(out)
}

func (s some) place(deep int) string {
	if deep <= 0 || s.random.IntN(4) > 0 {
		return "{ " + s.inline(deep) + " }"
	}
	out := "{ " + s.asked() + " ->\n"
	count := 1 + s.random.IntN(3)
	usual := s.random.IntN(count)
	for i := range count {
		out += "   " + map[bool]string{true: "*"}[i == usual] + "[" + pick(s.random, "one", "1", "1.0", "x", "other", "few", "2", "T") + "] " + s.pattern(deep-1) + "\n"
	}
	return out + " }"
}

func (s some) asked() string {
	switch s.random.IntN(4) {
	case 0:
		return "-" + someName(s.random, s.from) + "." + pick(s.random, "k", "q") + s.ownArgs()
	case 1:
		return s.function(1)
	}
	return pick(s.random, "$x", "$n", "$one", "$w", "$t", "$z", "\"one\"", "1", "2")
}

func (s some) inline(deep int) string {
	kind := s.random.IntN(12)
	if deep <= 0 {
		kind = s.random.IntN(7)
	}
	switch kind {
	case 0:
		return pick(s.random, "\"\"", "\"x\"", "\"1\"", "\"{\"", "1", "1.0", "-1234.50", strings.Repeat("1", 41))
	case 1, 2:
		return pick(s.random, "$x", "$n", "$one", "$w", "$t", "$full", "$z", "$z", "$half", "$long")
	case 3, 4:
		return someName(s.random, s.from) + pick(s.random, "", "", ".k", ".q", ".z")
	case 5:
		return "-" + someName(s.random, s.from) + s.ownArgs()
	case 6:
		return pick(s.random, "none", "none.k", "-none", "-none(x: 1)", "F()")
	case 7, 8:
		return "{ " + s.inline(deep-1) + " }"
	}
	return s.function(deep)
}

func (s some) ownArgs() string {
	return pick(s.random, "", "", "()", "(x: \"T\")", "(n: 1.0, z: \"x\")", "($x, one: 1)", "({ $z }, z: 2)", "(t: \"t\", half: \"h\", x: 1)")
}

func (s some) function(deep int) string {
	name := pick(s.random, "NUMBER", "NUMBER", "NUMBER", "DATETIME", "DATETIME", "F")
	if s.random.IntN(8) == 0 {
		return name + pick(s.random, "()", "($n, $t)", "(x: 1)", "($z, $z)")
	}
	asked := pick(s.random, "$n", "$one", "$w", "1.50", "$t", "$full", "$n", "$t")
	if deep > 0 && s.random.IntN(2) == 0 {
		asked = s.inline(deep - 1)
	}
	return name + "(" + asked + pick(s.random, "", "", ", minimumFractionDigits: 2", ", style: \"full\"", ", style: \"time\"", ", type: \"ordinal\"", ", useGrouping: \"false\", maximumFractionDigits: 0", ", x: 1", ", style: 1") + ")"
}

// someResource is messages and terms that ask each other; without rings just earlier ones ask later ones, and just by their values.
func someResource(random *rand.Rand, withRings bool) string {
	var out strings.Builder
	for i := range 6 {
		s := some{random: random}
		if !withRings {
			s.from = min(i+1, 5)
		}
		for _, ahead := range []string{"", "-"} {
			if withRings && random.IntN(6) == 0 {
				continue
			}
			value := s.pattern(3)
			if !withRings && i == 5 {
				value = "end"
			}
			if ahead == "" && random.IntN(8) == 0 {
				value = ""
			}
			out.WriteString(ahead + "m" + strconv.Itoa(i) + " = " + value + "\n")
			if value == "" || random.IntN(2) == 0 {
				attr := "end { $x }"
				if withRings {
					attr = s.pattern(2)
				}
				out.WriteString(" ." + pick(random, "k", "q") + " = " + attr + "\n")
			}
		}
	}
	return out.String()
}

func someArgs(random *rand.Rand) values {
	full := value.At(951_782_400)
	full.Style = moment.Both
	args := values{
		"x": value.Str("x"), "n": value.Num(dec.Dec{Digits: "12345", Scale: 1}), "one": value.Num(dec.Int(1)), "w": value.Written("1.0"),
		"t": value.At(0), "full": full, "half": value.Str(strings.Repeat("é", 1240+random.IntN(15))), "long": value.Str(strings.Repeat("l", 2490+random.IntN(20))),
	}
	if random.IntN(3) == 0 {
		args["x"] = value.Str("\xff{")
	}
	return args
}

// told is what Format tells of all messages and attributes, as a text.
func told(b *bundle.Bundle, args values) string {
	var out []string
	for _, name := range b.Names() {
		for _, attr := range []string{"", "k", "q", "z"} {
			got, errs, ok := resolve.Format(b, &number.Marks{}, name, attr, args)
			out = append(out, name+"."+attr+" "+strconv.FormatBool(ok)+" "+strconv.Quote(got)+" "+faults(errs))
		}
	}
	return strings.Join(out, "\n")
}

func TestP16_2P16_3P16_4AgainstThePlainForm(t *testing.T) {
	met := map[string]int{}
	for seed := range uint64(3_000) {
		random := rand.New(rand.NewPCG(seed, 16))
		lang := pick(random, "en", "de", "pl", "ja")
		resource := someResource(random, random.IntN(4) > 0)
		b, args := made(t, lang, resource), someArgs(random)
		for _, name := range append(b.Names(), "none", "") {
			for _, attr := range []string{"", "k", "q", "z"} {
				m := &number.Marks{}
				got, errs, ok := resolve.Format(b, m, name, attr, args)
				want, wrong, has := plainFormat(b, lang, name, attr, args)
				if got != want || faults(errs) != wrong || ok != has {
					t.Fatalf("seed %d: %s %s is %q, %q, %v, want %q, %q, %v, of\n%s", seed, name, attr, got, faults(errs), ok, want, wrong, has, resource)
				}
				for _, e := range errs {
					met[codes[e.Code]]++
				}
				met["none"] += map[bool]int{false: 1}[ok]
				met["right"] += map[bool]int{true: 1}[ok && len(errs) == 0]
			}
		}
	}
	for _, what := range append(codes[1:], "none", "right") {
		if met[what] < 500 {
			t.Errorf("just %d times %s", met[what], what)
		}
	}
}

// TestP4Rings is of messages that ask each other: where nothing is met again there is no such error; where something is, its name stands in braces, unless what it stands in is left out.
func TestP4Rings(t *testing.T) {
	rings := 0
	for seed := range uint64(2_000) {
		random := rand.New(rand.NewPCG(seed, 4))
		b, args := made(t, "en", someResource(random, false)), someArgs(random)
		if all := told(b, args); strings.Contains(all, "Cyclic") {
			t.Fatalf("seed %d: %s", seed, all)
		}
	}
	for seed := range uint64(6_000) {
		random := rand.New(rand.NewPCG(seed, 44))
		count := 1 + random.IntN(5)
		var s strings.Builder
		var asks [6][]int
		for i := range count {
			s.WriteString("m" + strconv.Itoa(i) + " = <")
			for range random.IntN(3) {
				to := random.IntN(count)
				asks[i] = append(asks[i], to)
				s.WriteString("{ m" + strconv.Itoa(to) + " }")
			}
			s.WriteString(">\n")
		}
		want, wrong, places := walk(asks[:], []int{0}, 0)
		if places > 100 {
			continue
		}
		check(t, made(t, "en", s.String()), "m0", "", nil, want, strings.Join(wrong, "; "))
		rings += len(wrong)
	}
	if rings < 1000 {
		t.Errorf("just %d rings", rings)
	}
}

// walk is what is written of the last message of a path, the errors, and how many places there are.
func walk(asks [][]int, path []int, places int) (string, []string, int) {
	out := "<"
	var wrong []string
	for _, to := range asks[path[len(path)-1]] {
		places++
		if slices.Contains(path, to) {
			out += "{m" + strconv.Itoa(to) + "}"
			wrong = append(wrong, "Cyclic m"+strconv.Itoa(to))
			continue
		}
		var inner string
		var errs []string
		inner, errs, places = walk(asks, append(slices.Clone(path), to), places)
		out += inner
		wrong = append(wrong, errs...)
	}
	return out + ">", wrong, places
}

// TestP3AnswersOfBoth is of what is read, written and read again: each message is answered alike of both.
func TestP3AnswersOfBoth(t *testing.T) {
	english, _ := tag.Parse("en")
	pieces := []string{"?\n", "{", "}", "# c\n", "\n\n", "  ", "\r", "\xff", "m0 =\n", " .k = ", "[", "*", "\"", "é", "m1 = x\n"}
	answers, junk := 0, 0
	for seed := range uint64(1_500) {
		random := rand.New(rand.NewPCG(seed, 3))
		resource := []byte(someResource(random, true))
		for range random.IntN(6) {
			i := random.IntN(len(resource) + 1)
			resource = slices.Insert(resource, i, []byte(pick(random, pieces...))...)
		}
		once, again := bundle.New(english), bundle.New(english)
		_, n := once.Add(resource, false)
		junk += n
		again.Add([]byte(serial.Resource(entry.Parse(text.Decode(resource)))), false)
		args := someArgs(random)
		if first, second := told(once, args), told(again, args); first != second {
			t.Fatalf("seed %d: of %q\n%s\nand\n%s", seed, resource, first, second)
		}
		answers += len(once.Names())
	}
	if answers < 4_000 || junk < 400 {
		t.Errorf("just %d answers, and %d times junk", answers, junk)
	}
}
