package chain_test

import (
	"math/rand/v2"
	"slices"
	"strconv"
	"strings"
	"testing"

	"polyglot/api"
	"polyglot/bundle"
	"polyglot/chain"
	"polyglot/dec"
	"polyglot/number"
	"polyglot/resolve"
	"polyglot/tag"
	"polyglot/value"
)

// plain is a second form of the document: what it says, case by case. Each language's bundle is made anew of all that was added to it.
type plain struct {
	langs    []tag.Tag
	added    [][]piece // by the places of their languages
	isChosen bool
	wishes   []string
	last     tag.Tag
}

// piece is what was added once.
type piece struct {
	resource string
	over     bool
}

// place is which of the languages that are there a tag is; -1: none of them.
func (p *plain) place(t tag.Tag) int {
	return slices.IndexFunc(p.langs, func(o tag.Tag) bool { return o.String() == t.String() })
}

// bundle is the bundle of a language, and what the last Add to it told.
func (p *plain) bundle(which int) (*bundle.Bundle, []string, int) {
	b := bundle.New(p.langs[which])
	var twice []string
	junk := 0
	for _, a := range p.added[which] {
		twice, junk = b.Add([]byte(a.resource), a.over)
	}
	return b, twice, junk
}

func (p *plain) add(lang string, a piece) ([]string, int, api.Errno) {
	t, ok := tag.Parse(lang)
	if !ok {
		return nil, 0, api.ErrArg
	}
	which := p.place(t)
	if which < 0 {
		which = len(p.langs)
		p.langs, p.added = append(p.langs, t), append(p.added, nil)
	}
	p.added[which] = append(p.added[which], a)
	_, twice, junk := p.bundle(which)
	return twice, junk, api.OK
}

func (p *plain) choose(wishes []string, last string) api.Errno {
	t, ok := tag.Parse(last)
	if !ok {
		return api.ErrArg
	}
	p.isChosen, p.wishes, p.last = true, slices.Clone(wishes), t
	return api.OK
}

// order is which of the languages are asked, by the words of layers 11 and 17.
func (p *plain) order() []int {
	var order []int
	ask := func(which int) {
		if which >= 0 && !slices.Contains(order, which) {
			order = append(order, which)
		}
	}
	if !p.isChosen {
		for which := range p.langs {
			ask(which)
		}
		return order
	}
	for _, s := range p.wishes {
		wish, ok := tag.Parse(s)
		if !ok {
			continue
		}
		ask(p.place(wish))
		for which, t := range p.langs {
			if t.Fits(wish) {
				ask(which)
			}
		}
		for less, ok := wish.Less(); ok; less, ok = less.Less() {
			ask(p.place(less))
		}
	}
	ask(p.place(p.last))
	return order
}

func (p *plain) orderTexts() string {
	var out []string
	for _, which := range p.order() {
		out = append(out, p.langs[which].String())
	}
	return strings.Join(out, " ")
}

// told is what Format is to tell, as the other told is.
func (p *plain) told(name, attr string, args values) string {
	for _, which := range p.order() {
		b, _, _ := p.bundle(which)
		if out, errs, ok := resolve.Format(b, &number.Marks{}, name, attr, args); ok {
			return strings.TrimSpace(p.langs[which].String() + " " + strconv.Quote(out) + " " + faults(errs))
		}
	}
	if attr != "" {
		name += "." + attr
	}
	return "none " + strconv.Quote(name) + " NoMessage " + name
}

func pick[T any](random *rand.Rand, list ...T) T { return list[random.IntN(len(list))] }

// someLang is a text that mostly tells one of few tags, so that they are often the same, or fit each other.
func someLang(random *rand.Rand) string {
	if random.IntN(12) == 0 {
		return pick(random, "", "!", "en_US", "d", "de-1996-1996")
	}
	s := pick(random, "de", "DE", "en", "fr")
	for _, part := range [...]string{"-Latn", "-at", "-AT", "-1996", "-rozaj"} {
		if random.IntN(5) == 0 {
			s += part
		}
	}
	return s
}

func someWishes(random *rand.Rand) []string {
	var list []string
	for range random.IntN(4) {
		list = append(list, someLang(random))
	}
	return list
}

// someResource is messages and terms that ask each other, whether they are there or not.
func someResource(random *rand.Rand, mark string) string {
	var out strings.Builder
	for range random.IntN(5) {
		out.WriteString(pick(random, "a", "b", "c", "-a", "-b") + " = ")
		if random.IntN(5) > 0 {
			out.WriteString(mark + " " + pick(random, "", "{ a }", "{ b.k }", "{ -a }", "{ $x }", "{ $n }", "{ $t }", "{ -b }{ c }", "{ $n ->\n *[one] 1\n [other] { c }\n }"))
		}
		out.WriteString("\n")
		if random.IntN(3) == 0 {
			out.WriteString(" ." + pick(random, "k", "l") + " = " + mark + " " + pick(random, "", "{ a.k }", "{ $y }") + "\n")
		}
		if random.IntN(6) == 0 {
			out.WriteString(pick(random, "?\n", "# c\n", "}\n", "\n\r\n", "\xff"))
		}
	}
	return out.String()
}

func someArgs() values {
	return values{"x": value.Str("X"), "n": value.Num(dec.Dec{Digits: "12345", Scale: 1}), "t": value.At(951_782_400)}
}

// asked is what may be asked of a chain: messages, and attributes of them.
func asked() [][2]string {
	var list [][2]string
	for _, name := range []string{"a", "b", "c", "z"} {
		for _, attr := range []string{"", "k", "l"} {
			list = append(list, [2]string{name, attr})
		}
	}
	return list
}

// both is a chain, and the plain form of it.
type both struct {
	c *chain.Chain
	p *plain
}

// step does something at random to both, and tells whether both tell the same of it.
func (x both) step(random *rand.Rand, mark string) bool {
	if random.IntN(4) == 0 {
		wishes, last := someWishes(random), someLang(random)
		return x.c.Choose(wishes, last) == x.p.choose(wishes, last)
	}
	return x.add(someLang(random), piece{someResource(random, mark), random.IntN(2) == 0})
}

func (x both) add(lang string, a piece) bool {
	twice, junk, err := x.c.Add(lang, []byte(a.resource), a.over)
	twice2, junk2, err2 := x.p.add(lang, a)
	return slices.Equal(twice, twice2) && junk == junk2 && err == err2
}

func TestP17_1P17_2AgainstThePlainForm(t *testing.T) {
	met := map[string]int{}
	args := someArgs()
	for seed := range uint64(1_500) {
		random := rand.New(rand.NewPCG(seed, 17))
		x := both{chain.New(), &plain{}}
		for i := range 1 + random.IntN(14) {
			if !x.step(random, "v"+strconv.Itoa(i)) {
				t.Fatalf("seed %d: step %d tells something else", seed, i)
			}
			if got, want := strings.Join(x.c.Order(), " "), x.p.orderTexts(); got != want {
				t.Fatalf("seed %d: the order behind step %d is %s, want %s", seed, i, got, want)
			}
			for _, q := range asked() {
				got, want := told(x.c, q[0], q[1], args), x.p.told(q[0], q[1], args)
				if got != want {
					t.Fatalf("seed %d: %s %s behind step %d is %s, want %s", seed, q[0], q[1], i, got, want)
				}
				lang, _, _ := strings.Cut(got, " ")
				met["none"] += map[bool]int{true: 1}[lang == "none"]
				met["first"] += map[bool]int{true: 1}[len(x.p.order()) > 1 && lang == x.c.Order()[0]]
				met["later"] += map[bool]int{true: 1}[lang != "none" && lang != x.c.Order()[0]]
				met["errors"] += map[bool]int{true: 1}[lang != "none" && !strings.HasSuffix(got, `"`)]
			}
		}
	}
	for _, what := range []string{"none", "first", "later", "errors"} {
		if met[what] < 3000 {
			t.Errorf("just %d times %s", met[what], what)
		}
	}
}

// answers is what a chain answers to all that is asked and that some language has, by what is asked.
func answers(c *chain.Chain, args values) map[[2]string]string {
	had := map[[2]string]string{}
	for _, q := range asked() {
		if _, ok := c.Format(q[0], q[1], args); ok {
			had[q] = told(c, q[0], q[1], args)
		}
	}
	return had
}

// TestP17_3P5Behind is of bundles that come to stand behind others: what these answered stays, and just what none of them has is answered by a new one.
func TestP17_3P5Behind(t *testing.T) {
	args := someArgs()
	came, stayed := 0, 0
	for seed := range uint64(4_000) {
		random := rand.New(rand.NewPCG(seed, 173))
		x := both{chain.New(), &plain{}}
		for i := range 2 + random.IntN(10) {
			x.step(random, "v"+strconv.Itoa(i))
		}
		order, had := x.c.Order(), answers(x.c, args)
		lang, a := someLang(random), piece{"a = new\n .k = new\nb = new\n .k = new { $n }\nc = new { a }\n-a = new", true}
		x.add(lang, a)
		now := x.c.Order()
		if len(now) != len(order)+1 {
			continue // the bundle was there, or isn't asked
		}
		place := slices.IndexFunc(now, func(s string) bool { return !slices.Contains(order, s) })
		if !slices.Equal(slices.Delete(slices.Clone(now), place, place+1), order) {
			t.Fatalf("seed %d: the order was %q, and is %q", seed, order, now)
		}
		came++
		for q, then := range had {
			by, _, _ := strings.Cut(then, " ")
			if slices.Index(now, by) < place {
				stayed++
				if got := told(x.c, q[0], q[1], args); got != then {
					t.Fatalf("seed %d: %s %s was %s, and is %s", seed, q[0], q[1], then, got)
				}
			}
		}
	}
	if came < 500 || stayed < 1000 {
		t.Errorf("just %d bundles came, and %d answers stayed", came, stayed)
	}
}

// TestP5FirstOne is of who answers: each language is asked once, and the first one that has a message answers as a chain of that language alone.
func TestP5FirstOne(t *testing.T) {
	args := someArgs()
	answered := 0
	for seed := range uint64(1_500) {
		random := rand.New(rand.NewPCG(seed, 5))
		c, alone := chain.New(), map[string]*chain.Chain{}
		for i := range 2 + random.IntN(10) {
			lang, resource, over := someLang(random), []byte(someResource(random, "v"+strconv.Itoa(i))), random.IntN(2) == 0
			c.Add(lang, resource, over)
			if x, ok := tag.Parse(lang); ok {
				if alone[x.String()] == nil {
					alone[x.String()] = chain.New()
				}
				alone[x.String()].Add(lang, resource, over)
			}
		}
		if random.IntN(4) > 0 {
			c.Choose(someWishes(random), someLang(random))
		}
		order := c.Order()
		if sorted := slices.Sorted(slices.Values(order)); len(slices.Compact(sorted)) != len(order) {
			t.Fatalf("seed %d: one comes twice in %q", seed, order)
		}
		for _, q := range asked() {
			want := told(chain.New(), q[0], q[1], args)
			for _, lang := range order {
				if _, ok := alone[lang].Format(q[0], q[1], args); ok {
					want = told(alone[lang], q[0], q[1], args)
					answered++
					break
				}
			}
			if got := told(c, q[0], q[1], args); got != want {
				t.Fatalf("seed %d: %s %s is %s, want %s", seed, q[0], q[1], got, want)
			}
		}
	}
	if answered < 3000 {
		t.Errorf("just %d answers", answered)
	}
}

// TestP17Many is of many languages and many wishes.
func TestP17Many(t *testing.T) {
	const count = 5_000
	c := chain.New()
	var wishes []string
	for i := range count {
		lang := "de-v" + strconv.Itoa(1_000_000+i)
		put(t, c, lang, "a"+strconv.Itoa(i)+" = "+lang)
		wishes = append(wishes, lang)
	}
	put(t, c, "de", "a = de")
	all := strings.Join(wishes, " ")
	checkOrder(t, c, all+" de")
	check(t, c, "a4999", "", nil, `de-v1004999 "de-v1004999"`)
	slices.Reverse(wishes)
	choose(t, c, strings.Join(wishes, " "), "en")
	checkOrder(t, c, "de-v1004999 de "+strings.Join(wishes[1:], " "))
	choose(t, c, "de", "en")
	checkOrder(t, c, "de "+all)
	check(t, c, "a4999", "", nil, `de-v1004999 "de-v1004999"`)
	check(t, c, "a", "", nil, `de "de"`)
}
