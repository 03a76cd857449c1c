package value_test

import (
	"math"
	"strconv"
	"strings"
	"testing"

	"polyglot/dec"
	"polyglot/moment"
	"polyglot/number"
	"polyglot/value"
)

// texts is some texts, some of which tell a number, or are a kind's word.
var texts = []string{"", "x", "other", "one", "many", "0", "1", "1.0", "-5", "date", "a\nb", " ", "{", "\x00", "\xff", "\u00e9", "\U0001f600"}

// otherKinds is what is no kind.
var otherKinds = []value.Kind{-1, 3, 4, 256, 257, 258, math.MaxInt, math.MinInt}

// noKeys is keys that are no kind's word, and tell no number.
var noKeys = []string{"", "Other", "OTHER", "other ", " other", "One", "ones", "on", "zeros", "ordinal", "none", "oneother", "1a", "1.", ".5", "+1", "--1", "1 ", " 1", "1,0", "0x1", "\xff"}

// words is the kinds' words.
var words = []string{"other", "zero", "one", "two", "few", "many"}

func parsed(t *testing.T, s string) dec.Dec {
	t.Helper()
	d, ok := dec.Parse(s)
	if !ok {
		t.Fatalf("%q tells no number", s)
	}
	return d
}

// long is a number that may have more digits than a text can tell.
func long(neg bool, whole, part string) dec.Dec {
	return dec.Dec{Neg: neg, Digits: whole + part, Scale: len(part)}
}

// withOpts is the number that s tells, written so.
func withOpts(t *testing.T, s string, o number.Opts) value.Value {
	t.Helper()
	v := value.Num(parsed(t, s))
	v.Opts = o
	return v
}

func checkValue(t *testing.T, what string, got, want value.Value) {
	t.Helper()
	if got != want {
		t.Errorf("%s is %+v, want %+v", what, got, want)
	}
}

func TestP14_1Kinds(t *testing.T) {
	if value.Text != 0 || value.Number != 1 || value.Moment != 2 {
		t.Errorf("the kinds are %d, %d, %d", value.Text, value.Number, value.Moment)
	}
}

func TestP14_1Str(t *testing.T) {
	for _, s := range texts {
		checkValue(t, strconv.Quote(s), value.Str(s), value.Value{Kind: value.Text, Text: s})
	}
}

func TestP14_1Num(t *testing.T) {
	nines := strings.Repeat("9", 60)
	for _, d := range []dec.Dec{
		dec.Int(0), dec.Int(1), dec.Int(-22), dec.Int(math.MinInt64), parsed(t, "-0"), parsed(t, "1.0"), parsed(t, "0.00000"), parsed(t, "-1.2345678"), parsed(t, "1234567.5"),
		long(false, nines, ""), long(true, "0", nines[1:]), long(true, nines[:30], nines[30:]),
	} {
		want := value.Value{Kind: value.Number, Num: d, Opts: number.Opts{MinInt: 1, MinFrac: 0, MaxFrac: 3}} // as many digits as it has make no difference
		checkValue(t, d.String(), value.Num(d), want)
	}
}

func TestP14_1At(t *testing.T) {
	for _, sec := range []int64{0, 1, -1, 951_782_400, 1 << 53, 1<<53 + 1, -1 << 53, -1<<53 - 1, math.MaxInt64, math.MinInt64} {
		checkValue(t, strconv.FormatInt(sec, 10), value.At(sec), value.Value{Kind: value.Moment, Sec: sec, Style: moment.Day})
	}
}

func TestP14_1Written(t *testing.T) {
	for s, want := range map[string]number.Opts{
		"0":         {MinInt: 1, MinFrac: 0, MaxFrac: 3},
		"-0":        {MinInt: 1, MinFrac: 0, MaxFrac: 3},
		"7":         {MinInt: 1, MinFrac: 0, MaxFrac: 3},
		"007":       {MinInt: 1, MinFrac: 0, MaxFrac: 3},
		"-12345678": {MinInt: 1, MinFrac: 0, MaxFrac: 3},
		"1.0":       {MinInt: 1, MinFrac: 1, MaxFrac: 3},
		"-0.0":      {MinInt: 1, MinFrac: 1, MaxFrac: 3},
		"001.50":    {MinInt: 1, MinFrac: 2, MaxFrac: 3},
		"1.234":     {MinInt: 1, MinFrac: 3, MaxFrac: 3},
		"1.2340":    {MinInt: 1, MinFrac: 4, MaxFrac: 4},
		"-1.23456":  {MinInt: 1, MinFrac: 5, MaxFrac: 5},
	} {
		checkValue(t, s, value.Written(s), value.Value{Kind: value.Number, Num: parsed(t, s), Opts: want})
	}
}

// TestP14_1WrittenScales is of as many digits behind the point as a text can tell.
func TestP14_1WrittenScales(t *testing.T) {
	for scale := range 40 {
		for _, sign := range []string{"", "-"} {
			for _, digit := range []string{"0", "5"} {
				s := sign + "3"
				if scale > 0 {
					s += "." + strings.Repeat(digit, scale)
				}
				o := number.Opts{MinInt: 1, MinFrac: min(scale, 20), MaxFrac: min(max(scale, 3), 20)}
				checkValue(t, s, value.Written(s), value.Value{Kind: value.Number, Num: parsed(t, s), Opts: o})
			}
		}
	}
}

func TestP14_1WrittenText(t *testing.T) {
	noughts := strings.Repeat("0", 40)
	for _, s := range []string{
		"", "x", "-", ".", "-.", ".5", "5.", "-5.", "1.2.3", "--1", "+1", " 1", "1 ", "1\n", "1e5", "1,5", "1,000", "0x1", "1a", "one", "other", "NaN", "\xff", "\u0661",
		noughts + "1", "1" + noughts, "1." + noughts, "-1." + noughts, // one digit too many
	} {
		checkValue(t, strconv.Quote(s), value.Written(s), value.Value{Kind: value.Text, Text: s})
	}
	for _, s := range []string{noughts, "-" + noughts, "1" + noughts[1:], "1." + noughts[1:]} { // as many as there may be
		if v := value.Written(s); v.Kind != value.Number || v.Num != parsed(t, s) || v.Text != "" {
			t.Errorf("%q is %+v", s, v)
		}
	}
}

func checkString(t *testing.T, v value.Value, lang, want string) {
	t.Helper()
	if got := v.String(&number.Marks{}, lang); got != want {
		t.Errorf("in %q %+v is %q, want %q", lang, v, got, want)
	}
}

func TestP14_2StringOfText(t *testing.T) {
	for _, lang := range []string{"en", "de", "fr", "ja", "", "\xff"} {
		for _, s := range texts {
			checkString(t, value.Str(s), lang, s)
			checkString(t, value.Value{Kind: value.Text, Text: s, Num: dec.Int(7), Opts: number.Default(), Sec: 7, Style: moment.Both}, lang, s)
			for _, kind := range otherKinds {
				checkString(t, value.Value{Kind: kind, Text: s, Num: dec.Int(7), Opts: number.Default(), Sec: 7}, lang, s)
			}
		}
	}
}

func TestP14_2StringOfNumber(t *testing.T) {
	for _, x := range []struct {
		v    value.Value
		lang string
		want string
	}{
		{value.Num(parsed(t, "1234.5")), "en", "1,234.5"},
		{value.Num(parsed(t, "1234.5")), "de", "1.234,5"},
		{value.Num(parsed(t, "1234.5")), "fr", "1\u202f234,5"},
		{value.Num(parsed(t, "1234.5")), "pl", "1\u00a0234,5"},
		{value.Num(parsed(t, "1234.5")), "de-AT", "1,234.5"},
		{value.Num(parsed(t, "1.0")), "en", "1"},
		{value.Num(parsed(t, "1.23450")), "en", "1.234"},
		{value.Num(parsed(t, "-0")), "en", "0"},
		{value.Num(parsed(t, "-0.0004")), "en", "0"},
		{value.Num(long(true, strings.Repeat("9", 58), "95")), "sv", "-9" + strings.Repeat("\u00a0999", 19) + ",95"},
		{value.Written("1.0"), "en", "1.0"},
		{value.Written("1.0"), "de", "1,0"},
		{value.Written("-1234.50"), "de", "-1.234,50"},
		{value.Written("007"), "en", "7"},
		{value.Written("-0.00"), "en", "0.00"},
		{value.Written("1.123456"), "de", "1,123456"},
		{value.Written("1." + strings.Repeat("1", 20)), "en", "1." + strings.Repeat("1", 20)},
		{value.Written("1." + strings.Repeat("6", 21)), "en", "1." + strings.Repeat("6", 19) + "7"},
		{value.Written("1." + strings.Repeat("0", 30)), "en", "1." + strings.Repeat("0", 20)},
		{withOpts(t, "1234.5", number.Opts{MinInt: 6, MinFrac: 2, MaxFrac: 2}), "en", "001,234.50"},
		{withOpts(t, "1234.5", number.Opts{MinInt: 6, MinFrac: 2, MaxFrac: 2, Plain: true}), "de", "001234,50"},
		{withOpts(t, "1234.5", number.Opts{MinInt: 1, MaxFrac: 0, Rank: true}), "en", "1,234"},
	} {
		checkString(t, x.v, x.lang, x.want)
		x.v.Text, x.v.Sec, x.v.Style = "other", 5, moment.Both // which a number doesn't ask for
		checkString(t, x.v, x.lang, x.want)
	}
}

func TestP14_2StringOfMoment(t *testing.T) {
	for _, x := range []struct {
		sec     int64
		style   moment.Style
		en, de  string
		fr, any string
	}{
		{0, moment.Day, "1/1/1970", "01.01.1970", "01/01/1970", "1970-01-01"},
		{0, moment.Time, "12:00 AM", "00:00", "00:00", "00:00"},
		{0, moment.Both, "1/1/1970, 12:00 AM", "01.01.1970 00:00", "01/01/1970 00:00", "1970-01-01 00:00"},
		{-62_167_219_201, moment.Both, "12/31/-0001, 11:59 PM", "31.12.-0001 23:59", "31/12/-0001 23:59", "-0001-12-31 23:59"},
		{951_782_400, 7, "2/29/2000", "29.02.2000", "29/02/2000", "2000-02-29"},
		{951_782_400, -1, "2/29/2000", "29.02.2000", "29/02/2000", "2000-02-29"},
		{math.MaxInt64, moment.Time, "7:36 AM", "07:36", "07:36", "07:36"},
	} {
		v := value.At(x.sec)
		v.Style = x.style
		for range 2 {
			checkString(t, v, "en", x.en)
			checkString(t, v, "de", x.de)
			checkString(t, v, "fr", x.fr)
			checkString(t, v, "ja", x.any)
			checkString(t, v, "", x.any)
			v.Text, v.Num, v.Opts = "other", dec.Int(1), number.Default() // which a moment doesn't ask for
		}
	}
}

// TestP14_2Asked is of how often the signs are asked for: once, where a number is written.
func TestP14_2Asked(t *testing.T) {
	m := &number.Marks{}
	check := func(want int64) {
		t.Helper()
		if m.Asked() != want {
			t.Errorf("asked %d times, want %d", m.Asked(), want)
		}
	}
	value.Str("1").String(m, "de")
	value.At(1).String(m, "de")
	value.Value{Kind: 3, Text: "1"}.String(m, "de")
	check(0)
	value.Num(dec.Int(1)).String(m, "de")
	check(1)
	value.Written("1234.5").String(m, "xx")
	check(2)
	withOpts(t, "1234", number.Opts{MinInt: 1, Plain: true}).String(m, "en")
	check(3)
}

func checkIs(t *testing.T, v value.Value, lang, keys string) {
	t.Helper()
	for _, key := range strings.Fields(keys) {
		if !v.Is(key, lang) {
			t.Errorf("in %q %+v isn't %q", lang, v, key)
		}
	}
}

func checkIsNot(t *testing.T, v value.Value, lang string, keys ...string) {
	t.Helper()
	for _, key := range keys {
		if v.Is(key, lang) {
			t.Errorf("in %q %+v is %q", lang, v, key)
		}
	}
}

// checkWord is of a number that of all words is this one alone.
func checkWord(t *testing.T, v value.Value, lang, want string) {
	t.Helper()
	for _, word := range words {
		if v.Is(word, lang) != (word == want) {
			t.Errorf("in %q %s as %+v is %s: %v, want %s", lang, v.Num, v.Opts, word, word != want, want)
		}
	}
	checkIsNot(t, v, lang, noKeys...)
}

func TestP14_2IsOfText(t *testing.T) {
	for _, lang := range []string{"en", "pl", "ja", "", "\xff"} {
		for _, s := range texts {
			v := value.Str(s)
			full := value.Value{Kind: value.Text, Text: s, Num: dec.Int(1), Opts: number.Default(), Sec: 1}
			for _, key := range texts {
				if v.Is(key, lang) != (s == key) || full.Is(key, lang) != (s == key) {
					t.Errorf("in %q whether %q is %q: %v, %v", lang, s, key, v.Is(key, lang), full.Is(key, lang))
				}
			}
		}
		checkIsNot(t, value.Str("1"), lang, "1.0", "01", "one", "other", "", "1 ", "-1", "10")
		checkIsNot(t, value.Str("1.0"), lang, "1", "1.00", "other")
		checkIsNot(t, value.Str("x"), lang, "X", "xx", "", "other", "x ")
		checkIsNot(t, value.Str("-0"), lang, "0")
	}
}

func TestP14_2IsOfMoment(t *testing.T) {
	for _, sec := range []int64{0, 1, 5, -1} {
		v := value.At(sec)
		full := value.Value{Kind: value.Moment, Text: "x", Num: dec.Int(sec), Opts: number.Default(), Sec: sec, Style: moment.Both}
		for _, lang := range []string{"en", "ja"} {
			for _, keys := range [][]string{words, noKeys, texts, {"0", "1", "5", "-1", "1970-01-01", "1/1/1970", "date", "full"}} {
				checkIsNot(t, v, lang, keys...)
				checkIsNot(t, full, lang, keys...)
			}
		}
	}
}

func TestP14_2IsOfOtherKind(t *testing.T) {
	for _, kind := range otherKinds {
		for _, s := range texts {
			v := value.Value{Kind: kind, Text: s, Num: dec.Int(1), Opts: number.Default(), Sec: 1}
			for _, keys := range [][]string{words, noKeys, texts} {
				checkIsNot(t, v, "en", keys...)
			}
			checkIsNot(t, value.Value{Kind: kind}, "en", "", s)
		}
	}
}

func TestP14_2IsNumber(t *testing.T) {
	for s, keys := range map[string]string{
		"0":         "0 -0 00 0.0 -0.000",
		"-0.0":      "0 -0 00 0.0 -0.000",
		"1":         "1 1.0 01 1.000000 0001.00",
		"1.0":       "1 1.0 01 1.000000 0001.00",
		"-1.50":     "-1.5 -1.50 -01.500",
		"22":        "22 22.0 022",
		"1.00049":   "1.00049 1.000490", // not as it is written
		"1234.5":    "1234.5 01234.50",
		"123456789": "123456789 123456789.0",
	} {
		for _, lang := range []string{"en", "de", "pl", "ja", ""} {
			for _, v := range []value.Value{value.Num(parsed(t, s)), value.Written(s), withOpts(t, s, number.Opts{MinInt: 5, MinFrac: 4, MaxFrac: 4, Rank: true}), withOpts(t, s, number.Opts{MinInt: 1})} {
				checkIs(t, v, lang, keys)
				for _, other := range []string{"2", "-1", "-22", "1.5", "0.5", "1.001", "1.0005", "1.0004", "-1234.5", "1234", "1235", "1,234.5", "1.234,5", "10", "220", "-123456789", "123456788", "1234567890", "12345678.9"} {
					checkIsNot(t, v, lang, other)
				}
			}
		}
	}
}

// TestP14_2IsLongNumber is of numbers with more digits than a key can have, and keys with as many as they can.
func TestP14_2IsLongNumber(t *testing.T) {
	sevens, noughts := strings.Repeat("7", 60), strings.Repeat("0", 59)
	checkIs(t, value.Num(long(false, "1", noughts)), "en", "1 1.0 one")
	checkIs(t, value.Num(long(true, "15", noughts[1:])), "en", "-15 -15.00 other")
	checkIs(t, value.Num(long(false, sevens[:40], "")), "en", sevens[:40]+" other")
	checkIs(t, value.Num(long(false, sevens[:40], noughts[:20])), "en", sevens[:40]+" other")
	checkIs(t, value.Num(long(false, sevens, "")), "pl", "many")
	checkIs(t, value.Num(long(false, sevens[:58]+"72", "")), "pl", "few")
	checkIsNot(t, value.Num(long(false, sevens, "")), "en", sevens, sevens[:40], sevens[:20], "7")
	checkIsNot(t, value.Num(long(false, sevens[:40], "1")), "en", sevens[:40])
}

func TestP14_2IsWord(t *testing.T) {
	for lang, kinds := range map[string]map[string]string{
		"en": {"one": "1 -1 01", "other": "0 2 21 1.5 0.9"},
		"de": {"one": "1", "other": "0 2"},
		"fr": {"one": "0 1 1.5 0.9", "other": "2 10 -2.5"},
		"es": {"one": "1", "other": "0 2 1.5"},
		"pl": {"one": "1", "few": "2 22 -4", "many": "0 5 12 21", "other": "0.5 2.5"},
		"ru": {"one": "1 21", "few": "2 22", "many": "0 11 12", "other": "1.5"},
		"cs": {"one": "1", "few": "2 4", "many": "1.5", "other": "0 5 22"},
		"ar": {"zero": "0", "one": "1", "two": "2 -2", "few": "3 110", "many": "11 99", "other": "100 1.5"},
		"ja": {"other": "0 1 2 5 11 1.5"},
		"":   {"other": "0 1 2"},
	} {
		for want, list := range kinds {
			for _, s := range strings.Fields(list) {
				checkWord(t, value.Num(parsed(t, s)), lang, want)
				checkWord(t, value.Written(s), lang, want)
			}
		}
	}
}

// TestP14_2IsWordOfShape is of numbers whose word hangs on how they are written.
func TestP14_2IsWordOfShape(t *testing.T) {
	for _, x := range []struct {
		s                string
		minFrac, maxFrac int
		lang, want       string
	}{
		{"1", 0, 3, "en", "one"},
		{"1.0", 0, 3, "en", "one"},
		{"1.0", 1, 3, "en", "other"},
		{"1", 2, 3, "en", "other"},
		{"1.0004", 0, 3, "en", "one"},
		{"1.0004", 0, 4, "en", "other"},
		{"0.9996", 0, 3, "en", "one"},
		{"1.4", 0, 0, "en", "one"},
		{"0.5", 0, 0, "en", "other"}, // which is written 0
		{"1.5", 0, 0, "pl", "few"},
		{"1.5", 0, 3, "pl", "other"},
		{"2.5", 0, 0, "ar", "two"},
		{"2", 0, 0, "cs", "few"},
		{"2", 1, 1, "cs", "many"},
		{"1.000", 3, 3, "es", "one"},
		{"1.9", 0, 0, "fr", "other"},
		{"1.9", 0, 1, "fr", "one"},
	} {
		checkWord(t, withOpts(t, x.s, number.Opts{MinInt: 1, MinFrac: x.minFrac, MaxFrac: x.maxFrac}), x.lang, x.want)
		checkWord(t, withOpts(t, x.s, number.Opts{MinInt: 1, MinFrac: x.minFrac, MaxFrac: x.maxFrac, Plain: true}), x.lang, x.want)
	}
	checkWord(t, value.Written("1.0"), "en", "other")
	checkWord(t, value.Num(parsed(t, "1.0")), "en", "one")
	checkWord(t, value.Written("1.0"), "cs", "many")
	checkWord(t, value.Num(parsed(t, "1.0")), "cs", "one")
}

func TestP14_2IsRank(t *testing.T) {
	rank := number.Opts{MinInt: 1, MaxFrac: 3, Rank: true}
	for lang, kinds := range map[string]map[string]string{
		"en": {"one": "1 21 -1 1.0", "two": "2 22", "few": "3 23", "other": "0 4 11 12 13 1.5"},
		"fr": {"one": "1 1.0", "other": "0 2 1.5"},
		"pl": {"other": "0 1 2 5"},
		"ja": {"other": "1 2"},
	} {
		for want, list := range kinds {
			for _, s := range strings.Fields(list) {
				checkWord(t, withOpts(t, s, rank), lang, want)
			}
		}
	}
	checkWord(t, withOpts(t, "2.5", number.Opts{MinInt: 1, Rank: true}), "en", "two") // it is written 2
	checkWord(t, withOpts(t, "2.4", rank), "en", "other")
	checkWord(t, withOpts(t, "2", number.Opts{MinInt: 1, MinFrac: 2, MaxFrac: 3, Rank: true}), "en", "two")
}

// TestP14_2IsWordWithNoughtsAhead is of numbers that are written with noughts ahead, which are no other numbers for that.
func TestP14_2IsWordWithNoughtsAhead(t *testing.T) {
	for lang, kinds := range map[string]map[string]string{
		"en": {"one": "1", "other": "0 2 21 100 101"},
		"fr": {"one": "0 1 1.5", "other": "2 100 101"},
		"es": {"one": "1", "other": "0 2 101"},
		"pl": {"one": "1", "few": "2 22 102", "many": "0 5 12 101", "other": "1.5"},
		"ru": {"one": "1 21 101", "few": "2", "many": "0 11 111"},
		"cs": {"one": "1", "few": "2 4", "many": "1.5", "other": "0 5 102"},
		"ar": {"zero": "0", "one": "1", "two": "2", "few": "3 103", "many": "11 111", "other": "100 101 102 1.5"},
		"ja": {"other": "0 1"},
	} {
		for want, list := range kinds {
			for _, s := range strings.Fields(list) {
				for least := 1; least <= 20; least++ {
					checkWord(t, withOpts(t, s, number.Opts{MinInt: least, MaxFrac: 3}), lang, want)
				}
			}
		}
	}
	for least := 1; least <= 20; least++ {
		rank := number.Opts{MinInt: least, MaxFrac: 3, Rank: true}
		checkWord(t, withOpts(t, "1", rank), "fr", "one")
		checkWord(t, withOpts(t, "101", rank), "fr", "other")
		checkWord(t, withOpts(t, "1", rank), "en", "one")
		checkWord(t, withOpts(t, "11", rank), "en", "other")
		checkWord(t, withOpts(t, "3.0", rank), "en", "few")
	}
}
