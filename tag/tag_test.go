package tag_test

import (
	"math/rand/v2"
	"reflect"
	"regexp"
	"slices"
	"strconv"
	"strings"
	"testing"

	"polyglot/tag"
)

func parsed(t *testing.T, s string) tag.Tag {
	t.Helper()
	x, ok := tag.Parse(s)
	if !ok {
		t.Fatalf("Parse(%q) tells none", s)
	}
	return x
}

func same(a, b tag.Tag) bool {
	return a.Lang == b.Lang && a.Script == b.Script && a.Region == b.Region && slices.Equal(a.Variants, b.Variants)
}

func TestP3_1Parse(t *testing.T) {
	for s, want := range map[string]tag.Tag{
		"en":                  {Lang: "en"},
		"EN":                  {Lang: "en"},
		"gSw":                 {Lang: "gsw"},
		"zh-hant-tw":          {Lang: "zh", Script: "Hant", Region: "TW"},
		"ZH-HANT-TW":          {Lang: "zh", Script: "Hant", Region: "TW"},
		"zh-hANT":             {Lang: "zh", Script: "Hant"},
		"en-us":               {Lang: "en", Region: "US"},
		"es-419":              {Lang: "es", Region: "419"},
		"es-Latn-419":         {Lang: "es", Script: "Latn", Region: "419"},
		"es-000":              {Lang: "es", Region: "000"},
		"de-de":               {Lang: "de", Region: "DE"},
		"de-AT-1996":          {Lang: "de", Region: "AT", Variants: []string{"1996"}},
		"de-1996":             {Lang: "de", Variants: []string{"1996"}},
		"de-latn-1996":        {Lang: "de", Script: "Latn", Variants: []string{"1996"}},
		"de-1ABC":             {Lang: "de", Variants: []string{"1abc"}},
		"de-0000":             {Lang: "de", Variants: []string{"0000"}},
		"sl-ROZAJ-Biske-1994": {Lang: "sl", Variants: []string{"rozaj", "biske", "1994"}},
		"sl-1994-rozaj":       {Lang: "sl", Variants: []string{"1994", "rozaj"}},
		"en-abcde":            {Lang: "en", Variants: []string{"abcde"}},
		"en-ABCDEFGH":         {Lang: "en", Variants: []string{"abcdefgh"}},
		"en-12345-12345678":   {Lang: "en", Variants: []string{"12345", "12345678"}},
		"en-a1b2c-5zzzzzz":    {Lang: "en", Variants: []string{"a1b2c", "5zzzzzz"}},
		"en-Azaz-AZ-0AZaz":    {Lang: "en", Script: "Azaz", Region: "AZ", Variants: []string{"0azaz"}},
	} {
		if got, ok := tag.Parse(s); !ok || !same(got, want) {
			t.Errorf("Parse(%q) = %+v, %v, want %+v", s, got, ok, want)
		}
	}
}

func TestP3_1NoTag(t *testing.T) {
	for _, s := range []string{
		"", "-", "e", "engl", "12", "1en", "e1", "en1", "*", "hant",
		"en-", "-en", "en--US", "en-US-", "--", "en-1996-",
		"en_US", "en US", " en", "en ", "en\n", "en-US\x00", "en.US",
		"en-u", "en-1", "en-12", "en-1234567890", "en-12a", "en-a12", "en-1a", "en-abc", "en-usa",
		"en-US-Latn", "en-us-gb", "en-us-419", "en-419-us", "en-Latn-Cyrl", "en-Latn-Lat1", "en-Lat1", "en-l123",
		"en-abcdefghi", "en-123456789", "en-1996-US", "en-1996-Latn", "en-abcde-419",
		"en-1996-1996", "en-abcde-ABCDE", "en-1abc-rozaj-1ABC", "en-US-rozaj-1994-RoZaJ",
		"én", "en-ÜS", "en-Látn", "en-abcdé", "e\u212Ack", "\u212Ade", "en-1\u0660\u0661\u0662", "en-٤١٩", "en-\xff\xff", "en-ſſſſ",
		"en-@@", "en-[[", "en-``", "en-{{", "en-///", "en-:::", "en-1:::", "@@", "{{",
	} {
		if got, ok := tag.Parse(s); ok || !reflect.DeepEqual(got, tag.Tag{}) {
			t.Errorf("Parse(%q) = %+v, %v", s, got, ok)
		}
	}
}

var form = regexp.MustCompile(`^([a-zA-Z]{2,3})(?:-([a-zA-Z]{4}))?(?:-([a-zA-Z]{2}|[0-9]{3}))?((?:-(?:[a-zA-Z0-9]{5,8}|[0-9][a-zA-Z0-9]{3}))*)$`)

// told is what Parse must tell, by the form above.
func told(s string) (tag.Tag, bool) {
	found := form.FindStringSubmatch(s)
	if found == nil {
		return tag.Tag{}, false
	}
	t := tag.Tag{Lang: strings.ToLower(found[1]), Region: strings.ToUpper(found[3])}
	if found[2] != "" {
		t.Script = strings.ToUpper(found[2][:1]) + strings.ToLower(found[2][1:])
	}
	for _, v := range strings.Split(strings.ToLower(found[4]), "-")[1:] {
		if slices.Contains(t.Variants, v) {
			return tag.Tag{}, false
		}
		t.Variants = append(t.Variants, v)
	}
	return t, true
}

// somePart is a part that a tag may have, or nearly.
func somePart(random *rand.Rand) string {
	signs := [...]string{"aZ", "09", "aB1", "zA9-", "1a_"}[random.IntN(5)]
	part := make([]byte, random.IntN(10))
	for i := range part {
		part[i] = signs[random.IntN(len(signs))]
	}
	return string(part)
}

func someText(random *rand.Rand) string {
	parts := []string{"en"}
	usual := [...]string{"de", "Latn", "us", "419", "1996", "rozaj", "ROZAJ", "1994", "biske"}
	for range random.IntN(6) {
		if random.IntN(4) == 0 {
			parts = append(parts, somePart(random))
		} else {
			parts = append(parts, usual[random.IntN(len(usual))])
		}
	}
	return strings.Join(parts[random.IntN(20)/19:], "-")
}

func TestP3_1AgainstTheForm(t *testing.T) {
	random := rand.New(rand.NewPCG(3, 1))
	tags := 0
	for range 300_000 {
		s := someText(random)
		want, right := told(s)
		got, ok := tag.Parse(s)
		if ok != right || !same(got, want) {
			t.Fatalf("Parse(%q) = %+v, %v, want %+v, %v", s, got, ok, want, right)
		}
		if ok {
			tags++
		}
	}
	if tags < 10_000 {
		t.Errorf("only %d tags", tags)
	}
}

func TestP3_1EveryByte(t *testing.T) {
	for c := range 256 {
		for _, s := range []string{"a?", "a?c", "en-a?", "en-a?cd", "en-1?3", "en-?bcd", "en-1?cd", "en-a?cde", "en-abcdefg?"} {
			s = strings.Replace(s, "?", string([]byte{byte(c)}), 1)
			want, right := told(s)
			if got, ok := tag.Parse(s); ok != right || !same(got, want) {
				t.Errorf("Parse(%q) = %+v, %v, want %+v, %v", s, got, ok, want, right)
			}
		}
	}
}

func TestP3_1String(t *testing.T) {
	for s, want := range map[string]string{
		"EN": "en", "zh-hant-tw": "zh-Hant-TW", "es-419": "es-419", "en-LATN": "en-Latn", "DE-at-1996": "de-AT-1996",
		"SL-ROZAJ-1994": "sl-rozaj-1994", "en-latn-gb-1ABC-Oxendict": "en-Latn-GB-1abc-oxendict",
	} {
		if got := parsed(t, s).String(); got != want {
			t.Errorf("%q is %q, want %q", s, got, want)
		}
		if !same(parsed(t, want), parsed(t, s)) {
			t.Errorf("%q isn't read as what was written", want)
		}
	}
}

func TestP3_1ManyVariants(t *testing.T) {
	const count = 200_000
	s := "en"
	var out strings.Builder
	for i := range count {
		out.WriteString("-v" + strconv.Itoa(1_000_000+i))
	}
	s += out.String()
	if x := parsed(t, s); len(x.Variants) != count || x.String() != s {
		t.Errorf("%d variants", len(x.Variants))
	}
	if x, ok := tag.Parse(s + "-V1000000"); ok || !reflect.DeepEqual(x, tag.Tag{}) {
		t.Error("one is there twice, and it is a tag")
	}
}

func TestP3_2Fits(t *testing.T) {
	for _, x := range []struct {
		tag, want string
		fits      bool
	}{
		{"zh-Hant-TW", "zh-Hant-TW", true},
		{"zh-hant-tw", "ZH-HANT", true},
		{"zh-Hant-TW", "zh", true},
		{"zh-Hant-TW", "zh-TW", false},
		{"zh-Hant", "zh-Hant-TW", false},
		{"zh", "zh-Hant", false},
		{"en", "en", true},
		{"en", "de", false},
		{"en-US", "de-US", false},
		{"eng", "en", false},
		{"en", "eng", false},
		{"de-AT-1996", "de-AT", true},
		{"de-AT-1996", "de-1996", false},
		{"de-1996", "de-1996", true},
		{"de-1996", "de-AT-1996", false},
		{"de-1996", "de-AT", false},
		{"de-AT", "de-DE", false},
		{"sr-Latn", "sr-Cyrl", false},
		{"sl-rozaj-biske-1994", "sl", true},
		{"sl-rozaj-biske-1994", "sl-rozaj", true},
		{"sl-rozaj-biske-1994", "sl-rozaj-biske", true},
		{"sl-rozaj-biske-1994", "sl-rozaj-1994", false},
		{"sl-rozaj-biske-1994", "sl-biske", false},
		{"sl-rozaj-biske", "sl-biske-rozaj", false},
		{"sl-rozaj", "sl-rozaj-biske", false},
		{"sl-rozajx", "sl-rozaj", false},
	} {
		if got := parsed(t, x.tag).Fits(parsed(t, x.want)); got != x.fits {
			t.Errorf("%s fits %s: %v", x.tag, x.want, got)
		}
	}
}

func TestP3_2Less(t *testing.T) {
	for _, x := range [][]string{
		{"en"},
		{"en-US", "en"},
		{"en-Latn", "en"},
		{"es-419", "es"},
		{"zh-Hant-TW", "zh-Hant", "zh"},
		{"de-1996", "de"},
		{"de-Latn-1996", "de-Latn", "de"},
		{"de-AT-1996", "de-AT", "de"},
		{"sl-Latn-IT-rozaj-biske-1994", "sl-Latn-IT-rozaj-biske", "sl-Latn-IT-rozaj", "sl-Latn-IT", "sl-Latn", "sl"},
	} {
		less := parsed(t, x[0])
		for _, want := range x[1:] {
			var ok bool
			if less, ok = less.Less(); !ok || less.String() != want || !same(less, parsed(t, want)) {
				t.Fatalf("of %s: %+v, %v, want %s", x[0], less, ok, want)
			}
		}
		if none, ok := less.Less(); ok || !reflect.DeepEqual(none, tag.Tag{}) {
			t.Errorf("%s without its last part is %+v, %v", less, none, ok)
		}
	}
}

func TestP3_2LessIsNew(t *testing.T) {
	x := parsed(t, "sl-rozaj-biske-1994")
	less, _ := x.Less()
	less.Variants[0] = "other"
	_ = append(less.Variants, "other")
	if x.String() != "sl-rozaj-biske-1994" {
		t.Errorf("it came to be %s", x)
	}
}

func TestP3_2FitsWhatIsLess(t *testing.T) {
	random := rand.New(rand.NewPCG(3, 2))
	for range 50_000 {
		a, ok := tag.Parse(someText(random))
		b, right := tag.Parse(someText(random))
		if !ok || !right {
			continue
		}
		fits := false
		less, more := a, true
		for range 10 { // more than the parts of any text here
			fits = fits || more && less.String() == b.String()
			less, more = less.Less()
		}
		if more {
			t.Fatalf("the parts of %s don't end", a)
		}
		if a.Fits(b) != fits {
			t.Fatalf("%s fits %s: %v", a, b, !fits)
		}
	}
}
