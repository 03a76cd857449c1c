package nego_test

import (
	"math/rand/v2"
	"reflect"
	"slices"
	"strconv"
	"strings"
	"testing"

	"polyglot/nego"
	"polyglot/tag"
)

func parsed(t *testing.T, s string) tag.Tag {
	t.Helper()
	x, ok := tag.Parse(s)
	if !ok {
		t.Fatalf("%q tells no tag", s)
	}
	return x
}

// tags is the tags of texts with spaces between.
func tags(t *testing.T, s string) []tag.Tag {
	t.Helper()
	var list []tag.Tag
	for _, field := range strings.Fields(s) {
		list = append(list, parsed(t, field))
	}
	return list
}

func texts(list []tag.Tag) string {
	var out []string
	for _, x := range list {
		out = append(out, x.String())
	}
	return strings.Join(out, " ")
}

func TestP11_1Tags(t *testing.T) {
	for _, x := range []struct {
		list []string
		want string
	}{
		{nil, ""},
		{[]string{}, ""},
		{[]string{""}, ""},
		{[]string{"x!"}, ""},
		{[]string{"en"}, "en"},
		{[]string{"zh-hant-tw", "EN-us", "de-1ABC"}, "zh-Hant-TW en-US de-1abc"},
		{[]string{"fr", "de", "en"}, "fr de en"},
		{[]string{"fr", "x!", "de", "", "e", "en_US", "english", "en"}, "fr de en"},
		{[]string{"?", "en", "?"}, "en"},
		{[]string{"en", "en", "EN", "en-1996-1996", "en"}, "en en en en"},
		{[]string{"en de", " en", "en ", "en,de", "*"}, ""},
		{[]string{"sl-ROZAJ-biske", "sl-rozaj-ROZAJ"}, "sl-rozaj-biske"},
	} {
		got := nego.Tags(x.list)
		if texts(got) != x.want || !reflect.DeepEqual(got, tags(t, x.want)) {
			t.Errorf("Tags(%q) is %s, want %s", x.list, texts(got), x.want)
		}
	}
}

func checkChain(t *testing.T, wishes, there, last, want string) {
	t.Helper()
	got := nego.Chain(tags(t, wishes), tags(t, there), parsed(t, last))
	if texts(got) != want || !reflect.DeepEqual(got, tags(t, want)) {
		t.Errorf("of the wishes %s, with %s there, and %s at last: %s, want %s", wishes, there, last, texts(got), want)
	}
}

func TestP11_1Last(t *testing.T) {
	checkChain(t, "", "", "en", "en")
	checkChain(t, "", "de", "en", "en")
	checkChain(t, "", "de en fr", "en", "en")
	checkChain(t, "de", "", "en", "en")
	checkChain(t, "de", "en-US", "en", "en")
	checkChain(t, "en", "", "en", "en")
	checkChain(t, "en", "en", "en", "en")
	checkChain(t, "en de", "de en", "en", "en de")
	checkChain(t, "de en", "de en", "en", "de en")
	checkChain(t, "de", "de", "zh-Hant-TW", "de zh-Hant-TW")
	checkChain(t, "de", "de en-US en-GB", "en", "de en") // those that fit the last one aren't asked for
	checkChain(t, "de", "de en", "en-US", "de en-US")    // nor those with fewer parts
	checkChain(t, "en-US", "en en-US-posix", "en-US", "en-US-posix en en-US")
}

func TestP11_1Itself(t *testing.T) {
	checkChain(t, "de", "de", "en", "de en")
	checkChain(t, "de", "fr de nl", "en", "de en")
	checkChain(t, "DE-at", "de-AT", "en", "de-AT en")
	checkChain(t, "de", "deu des", "en", "en")
	checkChain(t, "deu", "de", "en", "en")
	checkChain(t, "de", "de-AT de-AT-1996 de de-CH", "en", "de de-AT de-AT-1996 de-CH en") // ahead of those that fit it
	checkChain(t, "zh-Hant-TW", "zh-Hant-TW zh-TW zh-Hant", "en", "zh-Hant-TW zh-Hant en")
}

func TestP11_1Fitting(t *testing.T) {
	checkChain(t, "de", "de-CH de-AT de-1996", "en", "de-CH de-AT de-1996 en")
	checkChain(t, "de", "de-AT-1996 de-AT en-GB de-AT-1901", "en", "de-AT-1996 de-AT de-AT-1901 en")
	checkChain(t, "zh-Hant", "zh-Hans zh-Hant-TW zh-TW zh zh-Hant-HK", "en", "zh-Hant-TW zh-Hant-HK zh en")
	checkChain(t, "zh-TW", "zh-Hant-TW zh-TW-posix", "en", "zh-TW-posix en")
	checkChain(t, "sl-rozaj", "sl-rozaj-biske sl-biske-rozaj sl-rozaj-1994 sl-rozajx", "en", "sl-rozaj-biske sl-rozaj-1994 en")
	checkChain(t, "en-US", "en-USA12 en-US-posix eng-US en-GB", "fr", "en-US-posix fr")
}

func TestP11_1Less(t *testing.T) {
	checkChain(t, "de-AT", "de", "en", "de en")
	checkChain(t, "de-AT-1996", "de de-AT", "en", "de-AT de en")
	checkChain(t, "zh-Hant-TW", "zh", "en", "zh en")                                   // the one between isn't there
	checkChain(t, "zh-Hant-TW-v1234-v2345", "zh zh-Hant-TW", "en", "zh-Hant-TW zh en") // nor the ones ahead of them
	checkChain(t, "zh-Hant-TW", "zh-TW zh-Hans zh-HK", "en", "en")
	checkChain(t, "de-AT", "de-CH de-DE", "en", "en") // those that fit one with fewer parts aren't asked for
	checkChain(t, "de-AT", "de-CH de", "en", "de en")
	checkChain(t, "sl-Latn-IT-rozaj-biske-1994", "sl sl-Latn sl-Latn-IT sl-Latn-IT-rozaj sl-Latn-IT-rozaj-biske", "en",
		"sl-Latn-IT-rozaj-biske sl-Latn-IT-rozaj sl-Latn-IT sl-Latn sl en")
	checkChain(t, "de-1996", "de-AT de de-AT-1996", "en", "de en")
}

func TestP11_1AllOfIt(t *testing.T) {
	checkChain(t, "de-AT", "de en de-AT-1996", "en", "de-AT-1996 de en")
	checkChain(t, "de-AT", "de en de-AT-1996 de-AT", "en", "de-AT de-AT-1996 de en")
	checkChain(t, "fr zh-Hant-TW en-US", "zh en-US-posix zh-TW fr-CA fr", "en", "fr fr-CA zh en-US-posix en")
	checkChain(t, "zh-Hant en", "en-GB zh zh-Hant-HK en zh-Hant-TW zh-Hant", "de", "zh-Hant zh-Hant-HK zh-Hant-TW zh en en-GB de")
}

func TestP11_1Once(t *testing.T) {
	checkChain(t, "de de DE", "de", "en", "de en")
	checkChain(t, "de", "de de-AT de DE-at", "en", "de de-AT en")
	checkChain(t, "de-AT de-CH de-DE", "de de-DE de-CH de-AT", "en", "de-AT de de-CH de-DE en") // de, where it comes first
	checkChain(t, "de-AT de", "de-AT de de-CH", "en", "de-AT de de-CH en")
	checkChain(t, "de de-AT", "de-AT de de-CH", "en", "de de-AT de-CH en")
	checkChain(t, "de-CH de", "de-AT-1996 de-AT de-CH", "en", "de-CH de-AT-1996 de-AT en")
	checkChain(t, "de-CH fr de", "de-AT fr-CA de", "fr-CA", "de fr-CA de-AT")
	checkChain(t, "fr de fr", "de fr", "de", "fr de")
	checkChain(t, "en-GB de", "de en", "en", "en de") // the last one, too
}

// plain is the chapter's words, by layer 3's Fits and Less.
func plain(wishes, there []tag.Tag, last tag.Tag) string {
	var order []string
	add := func(t tag.Tag) {
		if !slices.Contains(order, t.String()) {
			order = append(order, t.String())
		}
	}
	addThere := func(t tag.Tag) {
		if slices.ContainsFunc(there, func(o tag.Tag) bool { return o.String() == t.String() }) {
			add(t)
		}
	}
	for _, wish := range wishes {
		addThere(wish)
		for _, t := range there {
			if t.Fits(wish) {
				add(t)
			}
		}
		for less, ok := wish.Less(); ok; less, ok = less.Less() {
			addThere(less)
		}
	}
	add(last)
	return strings.Join(order, " ")
}

// someTag is a tag of few parts that there are, so that they fit each other often.
func someTag(random *rand.Rand) tag.Tag {
	for {
		s := [...]string{"de", "sl"}[random.IntN(2)]
		for _, part := range [...]string{"-Latn", "-AT", "-419", "-1996", "-rozaj", "-biske", "-1996"} {
			if random.IntN(4) == 0 {
				s += part
			}
		}
		if t, ok := tag.Parse(s); ok {
			return t
		}
	}
}

func someTags(random *rand.Rand, most int) []tag.Tag {
	var list []tag.Tag
	for range random.IntN(most + 1) {
		list = append(list, someTag(random))
	}
	return list
}

func TestP11_1AgainstThePlainForm(t *testing.T) {
	lengths := map[int]int{}
	for seed := range uint64(30_000) {
		random := rand.New(rand.NewPCG(seed, 11))
		wishes, there, last := someTags(random, 4), someTags(random, 12), someTag(random)
		got := nego.Chain(wishes, there, last)
		if want := plain(wishes, there, last); texts(got) != want {
			t.Fatalf("of the wishes %s, with %s there, and %s at last: %s, want %s", texts(wishes), texts(there), last, texts(got), want)
		}
		lengths[min(len(got), 6)]++
	}
	for n := 1; n <= 6; n++ {
		if lengths[n] < 1000 {
			t.Errorf("just %d chains of %d", lengths[n], n)
		}
	}
}

func TestP11_1HandedInIsUnchanged(t *testing.T) {
	const wishText, thereText, lastText = "sl-rozaj-biske sl-1994", "sl-rozaj-biske-1994 sl-1994-rozaj sl-rozaj sl-rozaj-biske", "de-1996-rozaj"
	wishes, there, last := tags(t, wishText), tags(t, thereText), parsed(t, lastText)
	got := nego.Chain(wishes, there, last)
	want := texts(got)
	for i := range got {
		got[i].Lang = "xx"
		for k := range got[i].Variants {
			got[i].Variants[k] = "other"
		}
	}
	if texts(wishes) != wishText || texts(there) != thereText || last.String() != lastText {
		t.Errorf("what was handed in came to be %s, %s, %s", texts(wishes), texts(there), last)
	}
	if again := texts(nego.Chain(wishes, there, last)); again != want {
		t.Errorf("%s, and then %s", want, again)
	}
}

func TestP11_1AnswerIsItsOwn(t *testing.T) {
	wishes, there, last := tags(t, "sl-rozaj"), tags(t, "sl-rozaj-biske sl-rozaj"), parsed(t, "de-1996")
	got := nego.Chain(wishes, there, last)
	for _, list := range [][]tag.Tag{wishes, there, {last}} {
		for i := range list {
			list[i].Lang = "xx"
			for k := range list[i].Variants {
				list[i].Variants[k] = "other"
			}
		}
	}
	if want := "sl-rozaj sl-rozaj-biske de-1996"; texts(got) != want {
		t.Errorf("%s came to be %s", want, texts(got))
	}
	list := []string{"sl-rozaj"}
	told := nego.Tags(list)
	list[0] = "de"
	if texts(told) != "sl-rozaj" {
		t.Errorf("sl-rozaj came to be %s", texts(told))
	}
}

// manyTexts is texts of different tags, with the number of each as a variant.
func manyTexts(ahead string, count int) []string {
	list := make([]string, count)
	for i := range list {
		list[i] = ahead + "-v" + strconv.Itoa(1_000_000+i)
	}
	return list
}

// TestP11_1Many is of so many tags that they can't be held against each other one by one.
func TestP11_1Many(t *testing.T) {
	const count = 100_000
	list, de, en := nego.Tags(manyTexts("de", count)), tags(t, "de"), tags(t, "en")
	more := nego.Tags(manyTexts("de-v1000000", count)[1:])
	there := slices.Concat(list, de)
	for what, x := range map[string]struct{ wishes, there, want []tag.Tag }{
		"what they fit":           {de, there, slices.Concat(de, list, en)},
		"what they fit, again":    {slices.Repeat(de, count), there, slices.Concat(de, list, en)},
		"themselves":              {list, there, slices.Concat(list[:1], de, list[1:], en)},
		"such as have more parts": {more, there, slices.Concat(list[:1], de, en)},
		"what is there again":     {list, slices.Repeat(de, count), slices.Concat(de, en)},
	} {
		if got := nego.Chain(x.wishes, x.there, en[0]); texts(got) != texts(x.want) {
			t.Errorf("of %s: %d tags, want %d", what, len(got), len(x.want))
		}
	}
}

// TestP11_1ManyParts is of tags with so many parts that not each of them can be told with fewer parts one by one.
func TestP11_1ManyParts(t *testing.T) {
	const count = 100_000
	variants := strings.Join(manyTexts("", count), "")
	long, less := parsed(t, "de"+variants), parsed(t, "de"+strings.TrimSuffix(variants, "-v1099999"))
	de, en := parsed(t, "de"), parsed(t, "en")
	for what, x := range map[string]struct{ wishes, there, want []tag.Tag }{
		"itself":          {[]tag.Tag{long}, []tag.Tag{de, long}, []tag.Tag{long, de, en}},
		"one part less":   {[]tag.Tag{long}, []tag.Tag{de, less}, []tag.Tag{less, de, en}},
		"one part more":   {[]tag.Tag{less}, []tag.Tag{de, long}, []tag.Tag{long, de, en}},
		"all parts more":  {[]tag.Tag{de}, []tag.Tag{less, long, de}, []tag.Tag{de, less, long, en}},
		"nothing else":    {[]tag.Tag{less, long}, []tag.Tag{en}, []tag.Tag{en}},
		"other languages": {[]tag.Tag{en}, []tag.Tag{less, long}, []tag.Tag{en}},
	} {
		if got := nego.Chain(x.wishes, x.there, en); texts(got) != texts(x.want) {
			t.Errorf("%s: %d tags, want %d", what, len(got), len(x.want))
		}
	}
}
