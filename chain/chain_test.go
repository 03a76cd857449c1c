package chain_test

import (
	"maps"
	"reflect"
	"slices"
	"strconv"
	"strings"
	"testing"

	"polyglot/api"
	"polyglot/chain"
	"polyglot/dec"
	"polyglot/resolve"
	"polyglot/value"
)

// codes is the codes' names, in their order.
var codes = []string{"", "NoVar", "NoMessage", "NoTerm", "NoValue", "NoFunc", "BadArg", "Cyclic", "TooMany", "TooLong"}

// faults is what went wrong as a text: a code and a name each, a semicolon between.
func faults(list []resolve.Error) string {
	var out []string
	for _, e := range list {
		if e.Code < 1 || int(e.Code) >= len(codes) {
			out = append(out, "code "+strconv.Itoa(int(e.Code))+" "+e.Name)
		} else {
			out = append(out, codes[e.Code]+" "+e.Name)
		}
	}
	return strings.Join(out, "; ")
}

type values = map[string]value.Value

// told is what Format tells, as a text: the tag, or none, the text, and what went wrong.
func told(c *chain.Chain, name, attr string, args values) string {
	a, ok := c.Format(name, attr, args)
	lang := a.Tag
	if !ok {
		lang = "none" + a.Tag
	}
	return strings.TrimSpace(lang + " " + strconv.Quote(a.Text) + " " + faults(a.Errors))
}

func check(t *testing.T, c *chain.Chain, name, attr string, args values, want string) {
	t.Helper()
	kept := maps.Clone(args)
	for range 2 { // the second time as the first one
		if got := told(c, name, attr, args); got != want {
			t.Errorf("%q %q is %s, want %s", name, attr, got, want)
		}
	}
	if !maps.Equal(args, kept) {
		t.Errorf("of %q %q what was handed in came to be %+v", name, attr, args)
	}
}

func checkOrder(t *testing.T, c *chain.Chain, want string) {
	t.Helper()
	for range 2 {
		got := c.Order()
		if strings.Join(got, " ") != want || len(got) != len(strings.Fields(want)) {
			t.Errorf("the order is %q, want %s", got, want)
		}
	}
}

// checkAdd adds a resource; twice is the names that are told, with a space between.
func checkAdd(t *testing.T, c *chain.Chain, lang, resource string, over bool, twice string, junk int) {
	t.Helper()
	names, n, err := c.Add(lang, []byte(resource), over)
	if strings.Join(names, " ") != twice || len(names) != len(strings.Fields(twice)) || n != junk || err != api.OK {
		t.Errorf("Add of %q to %s tells %q, %d, %d, want %q, %d", resource, lang, names, n, err, twice, junk)
	}
}

// put adds a resource, of which nothing is there and nothing is junk.
func put(t *testing.T, c *chain.Chain, lang, resource string) {
	t.Helper()
	checkAdd(t, c, lang, resource, false, "", 0)
}

// choose is of wishes with a space between each two.
func choose(t *testing.T, c *chain.Chain, wishes, last string) {
	t.Helper()
	if err := c.Choose(strings.Split(wishes, " "), last); err != api.OK {
		t.Errorf("Choose of %q and %q tells %d", wishes, last, err)
	}
}

// made is a chain of languages, with a message in each that is the language's own.
func made(t *testing.T, langs string) *chain.Chain {
	t.Helper()
	c := chain.New()
	for _, lang := range strings.Fields(langs) {
		put(t, c, lang, "a = "+lang+" a")
	}
	return c
}

// noTags is texts that tell no tag.
func noTags() []string {
	return []string{"", "e", "?", "en_US", "english", "en-", "-en", "en--US", " en", "en ", "e1", "en-1996-1996", "en-US-Latn", "en-x", "éé", "en\x00", "\xff\xfe", "en-US\n", "*"}
}

func TestP17_1New(t *testing.T) {
	c, other := chain.New(), chain.New()
	checkOrder(t, c, "")
	check(t, c, "a", "", nil, `none "a" NoMessage a`)
	put(t, c, "en", "a = 1")
	choose(t, c, "en", "en")
	checkOrder(t, other, "")
	check(t, other, "a", "", nil, `none "a" NoMessage a`)
	put(t, other, "de", "b = 2")
	checkOrder(t, c, "en")
	checkOrder(t, other, "de") // nothing is chosen of that one
	check(t, c, "b", "", nil, `none "b" NoMessage b`)
}

// TestP17_1Zero is of a chain that New didn't make: it is as one.
func TestP17_1Zero(t *testing.T) {
	for range 2 {
		c := &chain.Chain{}
		checkOrder(t, c, "")
		check(t, c, "a", "k", nil, `none "a.k" NoMessage a.k`)
		put(t, c, "en", "a = 1")
		check(t, c, "a", "", nil, `en "1"`)
	}
	c := &chain.Chain{}
	choose(t, c, "de", "en")
	checkOrder(t, c, "")
	put(t, c, "en", "a = 1")
	put(t, c, "de", "a = 2")
	checkOrder(t, c, "de en")
}

func TestP17_1AddTells(t *testing.T) {
	c := chain.New()
	checkAdd(t, c, "en", "a = 1\n-a = 2\n?\n.b\nc = 3", false, "", 1)
	checkAdd(t, c, "en", "a = 4\nb = 5\n-a = 6\na = 7\n}", false, "a -a a", 1)
	check(t, c, "a", "", nil, `en "1"`)
	checkAdd(t, c, "en", "a = 8 { -a }\n{\n-a = 9\n?", true, "a -a", 2)
	check(t, c, "a", "", nil, `en "8 9"`)
	check(t, c, "b", "", nil, `en "5"`)
	check(t, c, "c", "", nil, `en "3"`)
	checkAdd(t, c, "en", "", true, "", 0)
	checkAdd(t, c, "en", "?", true, "", 1)
	checkAdd(t, c, "en", "\r\nd\r = \xff\r", false, "", 0)
	check(t, c, "d", "", nil, "en \"\uFFFD\"")
	if names, junk, err := c.Add("en", nil, true); len(names) != 0 || junk != 0 || err != api.OK {
		t.Errorf("Add of nil tells %q, %d, %d", names, junk, err)
	}
	checkOrder(t, c, "en")
}

// TestP17_1AddWhere is of tags that are the same, and of such as just begin alike.
func TestP17_1AddWhere(t *testing.T) {
	c := chain.New()
	put(t, c, "DE-at-1996-ROZAJ", "a = 1")
	checkAdd(t, c, "de-AT-1996-rozaj", "a = 2\nb = 2", false, "a", 0)
	checkAdd(t, c, "de-aT-1996-Rozaj", "b = 3", true, "b", 0)
	checkOrder(t, c, "de-AT-1996-rozaj")
	check(t, c, "a", "", nil, `de-AT-1996-rozaj "1"`)
	check(t, c, "b", "", nil, `de-AT-1996-rozaj "3"`)
	for _, lang := range strings.Fields("de-AT-rozaj-1996 de-AT-1996 de-AT de zh-hant zh-Hans deu de-Latn-AT de-DE de-1996") {
		put(t, c, lang, "a = 1\nb = 2")
	}
	checkOrder(t, c, "de-AT-1996-rozaj de-AT-rozaj-1996 de-AT-1996 de-AT de zh-Hant zh-Hans deu de-Latn-AT de-DE de-1996")
	checkAdd(t, c, "ZH-hans", "b = 3\na = 4", true, "b a", 0)
	checkAdd(t, c, "zh-HANT", "b = 3\na = 4", true, "b a", 0)
	checkOrder(t, c, "de-AT-1996-rozaj de-AT-rozaj-1996 de-AT-1996 de-AT de zh-Hant zh-Hans deu de-Latn-AT de-DE de-1996")
}

// TestP17_1AddNothing is of resources without messages: there is a bundle from then on, too.
func TestP17_1AddNothing(t *testing.T) {
	c := chain.New()
	checkAdd(t, c, "en", "", false, "", 0)
	checkAdd(t, c, "de", "?", false, "", 1)
	checkAdd(t, c, "fr", "# a", true, "", 0)
	checkOrder(t, c, "en de fr")
	check(t, c, "a", "", nil, `none "a" NoMessage a`)
	put(t, c, "fr", "a = 1")
	checkOrder(t, c, "en de fr")
	check(t, c, "a", "", nil, `fr "1"`)
}

func TestP17_1AddOfNoTag(t *testing.T) {
	for _, isChosen := range []bool{false, true} {
		c := made(t, "en de")
		if isChosen {
			choose(t, c, "de", "en")
		}
		order, answer := strings.Join(c.Order(), " "), told(c, "a", "", nil)
		for _, lang := range noTags() {
			for _, over := range []bool{false, true} {
				names, junk, err := c.Add(lang, []byte("a = 2\na = 3\n?\nb = 4"), over)
				if len(names) != 0 || junk != 0 || err != api.ErrArg {
					t.Errorf("Add to %q tells %q, %d, %d", lang, names, junk, err)
				}
			}
		}
		checkOrder(t, c, order)
		check(t, c, "a", "", nil, answer)
		check(t, c, "b", "", nil, `none "b" NoMessage b`)
		checkAdd(t, c, "en", "a = 5", false, "a", 0)
		checkAdd(t, c, "de", "a = 5\nb = 5", false, "a", 0)
	}
	c := chain.New()
	for _, lang := range noTags() {
		c.Add(lang, []byte("a = 1"), true)
	}
	checkOrder(t, c, "")
}

func TestP17_1Choose(t *testing.T) {
	c := made(t, "en de fr de-AT")
	checkOrder(t, c, "en de fr de-AT")
	choose(t, c, "de-CH", "fr")
	checkOrder(t, c, "de fr")
	check(t, c, "a", "", nil, `de "de a"`)
	choose(t, c, "en", "de-at") // nothing stays of what was chosen ahead of that
	checkOrder(t, c, "en de-AT")
	check(t, c, "a", "", nil, `en "en a"`)
	choose(t, c, "! en_US  FR x", "EN") // such as tell no tag are passed over
	checkOrder(t, c, "fr en")
	for _, none := range [][]string{nil, {}, noTags()} {
		if err := c.Choose(none, "de"); err != api.OK {
			t.Errorf("Choose of %q tells %d", none, err)
		}
		checkOrder(t, c, "de")
		check(t, c, "a", "", nil, `de "de a"`)
	}
}

func TestP17_1ChooseOfNoTag(t *testing.T) {
	c := made(t, "en de")
	checkAll := func(order, answer string) {
		t.Helper()
		for _, last := range noTags() {
			for _, wishes := range [][]string{nil, {"fr"}, {"de-AT", "en"}, noTags()} {
				if err := c.Choose(wishes, last); err != api.ErrArg {
					t.Errorf("Choose of %q and %q tells %d", wishes, last, err)
				}
			}
		}
		checkOrder(t, c, order)
		check(t, c, "a", "", nil, answer)
	}
	checkAll("en de", `en "en a"`) // nothing is chosen yet, so all are asked
	choose(t, c, "de", "fr")
	checkAll("de", `de "de a"`)
	put(t, c, "fr", "a = fr a")
	put(t, c, "es", "a = es a")
	checkAll("de fr", `de "de a"`)
}

// TestP17_1ChooseAhead is of languages that are chosen ahead of what comes.
func TestP17_1ChooseAhead(t *testing.T) {
	c := chain.New()
	choose(t, c, "de-AT fr", "en")
	checkOrder(t, c, "")
	check(t, c, "a", "", nil, `none "a" NoMessage a`)
	for _, x := range []struct{ lang, order, answer string }{
		{"es", "", `none "a" NoMessage a`},
		{"en", "en", `en "1"`},
		{"de", "de en", `de "1"`},
		{"fr-CA", "de fr-CA en", `de "1"`},
		{"de-AT-1996", "de-AT-1996 de fr-CA en", `de-AT-1996 "1"`},
		{"de-CH", "de-AT-1996 de fr-CA en", `de-AT-1996 "1"`},
		{"en-GB", "de-AT-1996 de fr-CA en", `de-AT-1996 "1"`},
		{"de-AT-1901", "de-AT-1996 de-AT-1901 de fr-CA en", `de-AT-1996 "1"`},
		{"de-AT", "de-AT de-AT-1996 de-AT-1901 de fr-CA en", `de-AT "1"`},
		{"fr", "de-AT de-AT-1996 de-AT-1901 de fr fr-CA en", `de-AT "1"`},
	} {
		put(t, c, x.lang, "a = 1")
		checkOrder(t, c, x.order)
		check(t, c, "a", "", nil, x.answer)
	}
}

func TestP17_2Order(t *testing.T) {
	for _, x := range []struct{ langs, wishes, last, want string }{
		{"de en de-AT-1996", "de-AT", "en", "de-AT-1996 de en"},
		{"de en de-AT-1996 de-AT", "de-AT", "en", "de-AT de-AT-1996 de en"},
		{"en", "de", "en", "en"},
		{"en", "en", "en", "en"},
		{"en", "en EN en", "en", "en"},
		{"de en", "en de", "en", "en de"},
		{"de", "de", "en", "de"}, // the last one has no bundle
		{"de", "fr", "en", ""},
		{"de", "", "en", ""},
		{"de en", "", "en", "en"},
		{"en-US", "", "en", ""}, // nor is what fits it asked for
		{"en", "", "en-US", ""},
		{"en-US en", "en", "en-GB", "en en-US"},
		{"de-CH de-AT", "de", "en", "de-CH de-AT"},
		{"de-AT de-CH", "de", "en", "de-AT de-CH"}, // in the order in which they came
		{"de-AT de-CH de", "de-DE", "en", "de"},
		{"fr-CA de fr es", "fr de", "es", "fr fr-CA de es"},
		{"zh zh-Hant-TW zh-Hant zh-TW", "zh-hant-tw", "zh-TW", "zh-Hant-TW zh-Hant zh zh-TW"},
		{"sl-rozaj-biske sl-biske sl-rozaj sl", "sl-rozaj-biske-1994 sl-biske", "en", "sl-rozaj-biske sl-rozaj sl sl-biske"},
	} {
		c := made(t, x.langs)
		checkOrder(t, c, x.langs)
		choose(t, c, x.wishes, x.last)
		checkOrder(t, c, x.want)
		want := `none "a" NoMessage a`
		if first, _, _ := strings.Cut(x.want, " "); first != "" {
			want = first + " " + strconv.Quote(first+" a")
		}
		check(t, c, "a", "", nil, want)
	}
}

func TestP17_2Example(t *testing.T) {
	c := chain.New()
	put(t, c, "de", "a = de a")
	put(t, c, "en", "a = en a\nb = en b")
	choose(t, c, "de", "en")
	check(t, c, "a", "", nil, `de "de a"`)
	check(t, c, "b", "", nil, `en "en b"`)
	check(t, c, "c", "", nil, `none "c" NoMessage c`)
}

// TestP17_2First is of what several languages have, or just some of it.
func TestP17_2First(t *testing.T) {
	c := chain.New()
	put(t, c, "de", "a =\n .k = de k\n .m =\n    { $x }\n-t = de t\ne = { \"\" }")
	put(t, c, "fr", "a = fr a\n .l = fr l\n .k = fr k\nt = fr t")
	put(t, c, "en", "a = en a\n .k = en k\n .z = en z\nb = en b\ne = en e")
	args := values{"x": value.Str("X")}
	for _, x := range []struct{ name, attr, want string }{
		{"a", "", `fr "fr a"`}, // in German that has no value
		{"a", "k", `de "de k"`},
		{"a", "l", `fr "fr l"`},
		{"a", "m", `de "X"`},
		{"a", "z", `en "en z"`},
		{"b", "", `en "en b"`},
		{"e", "", `de ""`}, // a text of nothing is one, too
		{"t", "", `fr "fr t"`},
	} {
		check(t, c, x.name, x.attr, args, x.want)
	}
	choose(t, c, "en", "de")
	checkOrder(t, c, "en de")
	for _, x := range []struct{ name, attr, want string }{
		{"a", "", `en "en a"`},
		{"a", "k", `en "en k"`},
		{"a", "l", `none "a.l" NoMessage a.l`}, // French isn't asked any more
		{"a", "m", `de "X"`},
		{"e", "", `en "en e"`},
		{"t", "", `none "t" NoMessage t`},
	} {
		check(t, c, x.name, x.attr, args, x.want)
	}
}

// TestP17_2AsByItAlone is of messages that ask for something that just another language has, and of how languages write.
func TestP17_2AsByItAlone(t *testing.T) {
	c := chain.New()
	put(t, c, "de-AT", "a = { b } { b.k } { -t } { $x } { F() } { a }\nb = { $n } { $t }\n-u = { -t }")
	put(t, c, "de", "a = de a\nb = de b\n .k = de k\n-t = de t")
	put(t, c, "en", "a = en a\nb = { $n } { $t }\n-t = en t\nc = { b } { -u }\nd = { -t } { $n } { $t }")
	args := values{"n": value.Num(dec.Dec{Digits: "12345", Scale: 1}), "t": value.At(0)}
	check(t, c, "a", "", args, `de-AT "1.234,5 01.01.1970 {b.k} {-t} {$x} {F()} {a}" NoValue b.k; NoTerm -t; NoVar $x; NoFunc F(); Cyclic a`)
	check(t, c, "c", "", args, `en "1,234.5 1/1/1970 {-u}" NoTerm -u`)
	check(t, c, "d", "", args, `en "en t 1,234.5 1/1/1970"`)
	check(t, c, "d", "", nil, `en "en t {$n} {$t}" NoVar $n; NoVar $t`)
	check(t, c, "b", "k", args, `de "de k"`)
	checkAdd(t, c, "de-at", "b = new\n .k = { $n }\n-t = T", true, "b", 0)
	check(t, c, "a", "", args, `de-AT "new 1.234,5 T {$x} {F()} {a}" NoVar $x; NoFunc F(); Cyclic a`)
	put(t, c, "fr", "f = { $n }")
	check(t, c, "f", "", args, "fr \"1\\u202f234,5\"")
}

func TestP17_2None(t *testing.T) {
	c := chain.New()
	put(t, c, "en", "a = 1\n .k = 2\nb =\n .k = 3\n-t = 4\n .k = 5\n# d")
	put(t, c, "de", "a = 1")
	for _, isChosen := range []bool{false, true} {
		for _, x := range []struct{ name, attr, want string }{
			{"z", "", "z"},
			{"z", "k", "z.k"},
			{"a", "z", "a.z"},
			{"b", "", "b"},
			{"A", "", "A"},
			{"t", "", "t"},
			{"-t", "", "-t"},
			{"-t", "k", "-t.k"},
			{"a.k", "", "a.k"},
			{"a.k", "k", "a.k.k"},
			{"", "", ""},
			{"", "k", ".k"},
			{"a", ".k", "a..k"},
			{" a", "k ", " a.k "},
			{"{a}", "", "{a}"},
			{"$x", "\x00", "$x.\x00"},
			{"\xff", "\"", "\xff.\""},
			{strings.Repeat("n", 3000), "", strings.Repeat("n", 3000)}, // no limit of a place holds for it
		} {
			args := values{"x": value.Str("X"), x.name: value.Str("A")}
			a, ok := c.Format(x.name, x.attr, args)
			want := chain.Answer{Text: x.want, Errors: []resolve.Error{{Code: resolve.NoMessage, Name: x.want}}}
			if ok || !reflect.DeepEqual(a, want) {
				t.Errorf("%q %q is %+v, %v, want %+v", x.name, x.attr, a, ok, want)
			}
		}
		if !isChosen {
			choose(t, c, "de", "en")
		}
	}
}

// TestP17_2Places is of limits: they hold for each answer, not for all of them together.
func TestP17_2Places(t *testing.T) {
	c := chain.New()
	put(t, c, "de", "a = "+strings.Repeat("{ 1 }", 100)+"\nb = "+strings.Repeat("{ 1 }", 101))
	put(t, c, "en", "a = en\nb = en")
	for range 3 {
		check(t, c, "a", "", nil, "de \""+strings.Repeat("1", 100)+"\"")
		check(t, c, "b", "", nil, "de \""+strings.Repeat("1", 100)+"{?}\" TooMany ?")
	}
}

func TestP17_3Behind(t *testing.T) {
	c := chain.New()
	put(t, c, "de", "a = de a { $x }\nb =\n .k = de k")
	for _, lang := range []string{"en", "fr", "de-AT"} {
		put(t, c, lang, "a = "+lang+"\nb = "+lang+"\n .k = "+lang+"\nx = "+lang)
		check(t, c, "a", "", nil, `de "de a {$x}" NoVar $x`)
		check(t, c, "b", "k", nil, `de "de k"`)
		check(t, c, "b", "", nil, `en "en"`)
		check(t, c, "x", "", nil, `en "en"`)
	}
	choose(t, c, "de", "fr")
	checkOrder(t, c, "de de-AT fr")
	check(t, c, "x", "", nil, `de-AT "de-AT"`)
	put(t, c, "de-CH", "a = CH\nb = CH\n .k = CH\nx = CH\ny = CH")
	checkOrder(t, c, "de de-AT de-CH fr") // ahead of fr
	check(t, c, "a", "", nil, `de "de a {$x}" NoVar $x`)
	check(t, c, "b", "", nil, `de-AT "de-AT"`)
	check(t, c, "x", "", nil, `de-AT "de-AT"`)
	check(t, c, "y", "", nil, `de-CH "CH"`)
	put(t, c, "es", "z = es") // which isn't asked
	check(t, c, "z", "", nil, `none "z" NoMessage z`)
}

// TestP17HandedIn is of what is handed in, and turned by its owner later.
func TestP17HandedIn(t *testing.T) {
	c := chain.New()
	resource, wishes := []byte("a = { $x }\n?\nsl = 2"), []string{"sl-rozaj", "!", "de-1996"}
	for _, lang := range []string{"de", "sl-rozaj"} {
		c.Add(lang, resource, false)
	}
	c.Choose(wishes, "en")
	if string(resource) != "a = { $x }\n?\nsl = 2" || strings.Join(wishes, " ") != "sl-rozaj ! de-1996" {
		t.Errorf("what was handed in came to be %q, %q", resource, wishes)
	}
	for i := range resource {
		resource[i] = '#'
	}
	wishes[0], wishes[1], wishes[2] = "de", "sl", "fr"
	checkOrder(t, c, "sl-rozaj de")
	args := values{"x": value.Str("X")}
	check(t, c, "a", "", args, `sl-rozaj "X"`)
	args["x"] = value.Str("Y")
	check(t, c, "a", "", args, `sl-rozaj "Y"`)
	delete(args, "x")
	check(t, c, "a", "", args, `sl-rozaj "{$x}" NoVar $x`)
}

// TestP17Answers is of answers that are turned by whoever has them.
func TestP17Answers(t *testing.T) {
	c := made(t, "sl-rozaj-biske de en")
	for range 2 {
		order := c.Order()
		kept := slices.Clone(order)
		clear(order)
		_ = append(order[:1], "xx")
		checkOrder(t, c, strings.Join(kept, " "))
		a, _ := c.Format("z", "", nil)
		clear(a.Errors)
		check(t, c, "z", "", nil, `none "z" NoMessage z`)
		choose(t, c, "sl de", "en")
	}
	checkAdd(t, c, "en", "b = { $x }", false, "", 0)
	a, _ := c.Format("b", "", nil)
	clear(a.Errors)
	check(t, c, "b", "", nil, `en "{$x}" NoVar $x`)
	twice, _, _ := c.Add("en", []byte("a = 1\nb = 2"), false)
	clear(twice)
	checkAdd(t, c, "en", "a = 1\nb = 2", false, "a b", 0)
}

// TestP17Asking is of calls that just ask: they turn nothing.
func TestP17Asking(t *testing.T) {
	c, other := made(t, "en de"), made(t, "en de")
	for range 5 {
		c.Order()
		c.Format("a", "", nil)
		c.Format("a", "k", values{"x": value.Str("x")})
		c.Format("zz", "", nil)
		c.Add("?", []byte("zz = 1"), true)
		c.Choose([]string{"de"}, "?")
	}
	for _, x := range []*chain.Chain{c, other} {
		checkOrder(t, x, "en de")
		put(t, x, "fr", "a = fr\nzz = fr")
		check(t, x, "a", "", nil, `en "en a"`)
		check(t, x, "zz", "", nil, `fr "fr"`)
	}
}
