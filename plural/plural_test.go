package plural_test

import (
	"math"
	"math/rand/v2"
	"strconv"
	"strings"
	"testing"

	"polyglot/dec"
	"polyglot/plural"
)

const (
	other = plural.Other
	zero  = plural.Zero
	one   = plural.One
	two   = plural.Two
	few   = plural.Few
	many  = plural.Many
)

var languages = [...]string{"en", "de", "nl", "sv", "fr", "es", "pl", "ru", "cs", "ar", "ja"}

func number(t *testing.T, s string) dec.Dec {
	t.Helper()
	d, ok := dec.Parse(s)
	if !ok {
		t.Fatalf("%q tells no number", s)
	}
	return d
}

func TestP4_1Word(t *testing.T) {
	for c, want := range map[plural.Category]string{
		0: "other", 1: "zero", 2: "one", 3: "two", 4: "few", 5: "many",
		-1: "", 6: "", 256: "", math.MaxInt: "", math.MinInt: "",
	} {
		if got := c.Word(); got != want {
			t.Errorf("Word of %d is %q", int(c), got)
		}
	}
	for want, c := range [...]plural.Category{other, zero, one, two, few, many} {
		if int(c) != want {
			t.Errorf("%s is %d", c.Word(), int(c))
		}
	}
}

// kinds is a language's Of, and the numbers of which it is one.
type kinds struct {
	lang    string
	numbers map[plural.Category]string
}

func checkKinds(t *testing.T, name string, call func(string, dec.Dec) plural.Category, all []kinds) {
	t.Helper()
	for _, k := range all {
		for want, list := range k.numbers {
			for _, s := range strings.Fields(list) {
				for _, sign := range [...]string{"", "-"} {
					if got := call(k.lang, number(t, sign+s)); got != want {
						t.Errorf("%s(%s, %s%s) is %s, want %s", name, k.lang, sign, s, got.Word(), want.Word())
					}
				}
			}
		}
	}
}

func TestP4_2Of(t *testing.T) {
	checkKinds(t, "Of", plural.Of, []kinds{
		{"en", map[plural.Category]string{one: "1 01", other: "0 2 10 11 21 101 1.0 1.00 1.5 0.1 100000000000000000001"}},
		{"de", map[plural.Category]string{one: "1", other: "0 2 11 101 1.0 0.9"}},
		{"nl", map[plural.Category]string{one: "1", other: "0 2 11 101 1.0 0.9"}},
		{"sv", map[plural.Category]string{one: "1", other: "0 2 11 101 1.0 0.9"}},
		{"fr", map[plural.Category]string{one: "0 1 0.0 0.9 1.0 1.999", other: "2 2.0 10 11 100 101"}},
		{"es", map[plural.Category]string{one: "1 1.0 1.000", other: "0 2 1.1 1.001 0.1 11 21 101"}},
		{"pl", map[plural.Category]string{
			one:   "1",
			few:   "2 3 4 22 23 24 32 102 104 122 1000000000000000000002",
			many:  "0 5 6 9 10 11 12 13 14 15 19 20 21 25 31 101 111 112 113 114 211 212 1000000000000000000012",
			other: "1.0 2.0 5.5 0.0 22.00"}},
		{"ru", map[plural.Category]string{
			one:   "1 21 31 101 121 1001 1000000000000000000001",
			few:   "2 3 4 22 24 33 102 1004",
			many:  "0 5 9 10 11 12 13 14 15 19 20 25 100 111 112 114 1000000000000000000011",
			other: "1.0 2.5 0.0 21.0"}},
		{"cs", map[plural.Category]string{one: "1", few: "2 3 4", many: "1.0 2.0 0.5 0.0 5.00 100.1", other: "0 5 10 12 13 21 22 24 101 102"}},
		{"ar", map[plural.Category]string{
			zero: "0 0.0", one: "1 1.0", two: "2 2.00",
			few:   "3 3.0 5 9 10 103 110 203 1003 1000000000000000000010",
			many:  "11 11.0 12 20 50 99 111 199 211 1000000000000000000099",
			other: "100 101 102 200 201 202 1000 100.0 0.5 1.1 3.01 11.5"}},
	})
}

func TestP4_2OtherLanguages(t *testing.T) {
	for _, lang := range []string{"", "ja", "it", "e", "eng", "EN", "En", "en-US", "en ", "pl\x00", "\xff"} {
		for _, s := range strings.Fields("0 1 2 3 5 11 12 22 100 1.0 0.5") {
			if got := plural.Of(lang, number(t, s)); got != other {
				t.Errorf("Of(%q, %s) is %s", lang, s, got.Word())
			}
			if got := plural.Rank(lang, number(t, s)); got != other {
				t.Errorf("Rank(%q, %s) is %s", lang, s, got.Word())
			}
		}
	}
}

func TestP4_3Rank(t *testing.T) {
	all := []kinds{
		{"en", map[plural.Category]string{
			one:   "1 21 31 91 101 121 1.0 21.00 1000000000000000000001",
			two:   "2 22 32 102 122 2.0",
			few:   "3 23 33 103 123 3.0 1000000000000000000123",
			other: "0 4 5 9 10 11 12 13 14 20 24 111 112 113 211 1011 11.0 12.00 13.0 1.5 2.01 3.9 0.1 0.0"}},
		{"fr", map[plural.Category]string{one: "1 1.0 1.00", other: "0 2 3 11 21 101 1.5 1.01 0.0 0.1"}},
	}
	for _, lang := range languages {
		if lang != "en" && lang != "fr" {
			all = append(all, kinds{lang, map[plural.Category]string{other: "0 1 2 3 4 5 10 11 12 13 21 22 23 100 1.0 2.0 0.5"}})
		}
	}
	checkKinds(t, "Rank", plural.Rank, all)
}

// of and rank are the chapter's words, of i, of how many digits stand behind the point, and of whether they are all 0.
func of(lang string, i, v int, whole bool) plural.Category {
	slavFew := i%10 >= 2 && i%10 <= 4 && (i%100 < 12 || i%100 > 14)
	switch {
	case strings.Contains("en de nl sv", lang) && v == 0 && i == 1,
		lang == "fr" && i <= 1,
		lang == "es" && whole && i == 1,
		lang == "pl" && v == 0 && i == 1,
		lang == "ru" && v == 0 && i%10 == 1 && i%100 != 11,
		lang == "cs" && v == 0 && i == 1,
		lang == "ar" && whole && i == 1:
		return one
	case (lang == "pl" || lang == "ru") && v == 0 && slavFew,
		lang == "cs" && v == 0 && i >= 2 && i <= 4,
		lang == "ar" && whole && i%100 >= 3 && i%100 <= 10:
		return few
	case (lang == "pl" || lang == "ru") && v == 0,
		lang == "cs" && v != 0,
		lang == "ar" && whole && i%100 >= 11:
		return many
	case lang == "ar" && whole && i == 0:
		return zero
	case lang == "ar" && whole && i == 2:
		return two
	}
	return other
}

func rank(lang string, i int, whole bool) plural.Category {
	switch {
	case !whole:
		return other
	case lang == "fr" && i == 1, lang == "en" && i%10 == 1 && i%100 != 11:
		return one
	case lang == "en" && i%10 == 2 && i%100 != 12:
		return two
	case lang == "en" && i%10 == 3 && i%100 != 13:
		return few
	}
	return other
}

func checkBoth(t *testing.T, d dec.Dec, i, v int, whole bool) {
	t.Helper()
	for _, lang := range languages {
		if got, want := plural.Of(lang, d), of(lang, i, v, whole); got != want {
			t.Fatalf("Of(%s, %s) is %s, want %s", lang, d, got.Word(), want.Word())
		}
		if got, want := plural.Rank(lang, d), rank(lang, i, whole); got != want {
			t.Fatalf("Rank(%s, %s) is %s, want %s", lang, d, got.Word(), want.Word())
		}
	}
}

func TestP4_2P4_3EveryNumber(t *testing.T) {
	for i := range 2_500 {
		for _, part := range [...]string{"", "0", "00", "1", "01", "10", "000000000000000000000000000000"} {
			d := dec.Dec{Neg: i%2 == 1, Digits: strconv.Itoa(i) + part, Scale: len(part)}
			checkBoth(t, d, i, len(part), strings.Trim(part, "0") == "")
		}
	}
}

// Of more than three digits the chapter asks for the last two alone: 1,000 and these are alike to it.
func TestP4_2P4_3ManyDigits(t *testing.T) {
	random := rand.New(rand.NewPCG(4, 2))
	for range 20_000 {
		last := random.IntN(100)
		whole := make([]byte, 1+random.IntN(95))
		for k := range whole {
			whole[k] = byte('0' + random.IntN(10))
		}
		whole[0] = byte('1' + random.IntN(9))
		tens := strconv.Itoa(100 + last)[1:]
		part := strings.Repeat("0", random.IntN(4))
		if random.IntN(3) == 0 {
			part += "5"
		}
		d := dec.Dec{Neg: random.IntN(2) == 0, Digits: string(whole) + tens + part, Scale: len(part)}
		checkBoth(t, d, 1000+last, len(part), strings.Trim(part, "0") == "")
	}
}
