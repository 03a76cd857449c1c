package value_test

import (
	"math/rand/v2"
	"strings"
	"testing"

	"polyglot/api"
	"polyglot/dec"
	"polyglot/moment"
	"polyglot/number"
	"polyglot/plural"
	"polyglot/value"
)

// someNumber is a Right number of up to 60 digits, rich in nines, noughts, fives and small numbers.
func someNumber(random *rand.Rand) dec.Dec {
	signs := [...]string{"0123456789", "09", "05", "01", "0459"}[random.IntN(5)]
	length := 1 + random.IntN([...]int{2, 5, 60}[random.IntN(3)])
	digits := make([]byte, length)
	for i := range digits {
		digits[i] = signs[random.IntN(len(signs))]
	}
	d := dec.Dec{Neg: random.IntN(4) == 0, Digits: string(digits), Scale: random.IntN(length)}
	if digits[0] == '0' {
		d.Scale = length - 1
	}
	return d
}

// someSet is the usual options, turned a few times.
func someSet(random *rand.Rand) number.Opts {
	o := number.Default()
	for range random.IntN(5) {
		name := [...]string{"minimumIntegerDigits", "minimumFractionDigits", "maximumFractionDigits"}[random.IntN(3)]
		if next, e := o.Set(name, "", dec.Int(random.Int64N(21)), false); e == api.OK {
			o = next
		}
	}
	o.Plain, o.Rank = random.IntN(3) == 0, random.IntN(3) == 0
	return o
}

// someValue has all fields, whatever its kind is.
func someValue(random *rand.Rand) value.Value {
	return value.Value{
		Kind:  value.Kind(random.IntN(5) - 1),
		Text:  append(words, texts...)[random.IntN(len(words)+len(texts))],
		Num:   someNumber(random),
		Opts:  someSet(random),
		Sec:   random.Int64() >> random.IntN(64) * [...]int64{1, -1}[random.IntN(2)],
		Style: moment.Style(random.IntN(5) - 1),
	}
}

// someKey is a word, a number that may be the value's, or anything else.
func someKey(random *rand.Rand, v value.Value) string {
	switch random.IntN(4) {
	case 0:
		return v.Num.Trim(random.IntN(4)).Pad(random.IntN(8)).String()
	case 1:
		return texts[random.IntN(len(texts))]
	}
	return words[random.IntN(len(words))]
}

// plainString is String by the chapter's words.
func plainString(v value.Value, lang string) string {
	if v.Kind == value.Number {
		return number.Format(&number.Marks{}, lang, v.Num, v.Opts)
	}
	if v.Kind == value.Moment {
		return moment.Format(lang, v.Sec, v.Style)
	}
	return v.Text
}

// plainWord is a number's word: that of the number which is read of it as it is written in English, without noughts ahead.
func plainWord(v value.Value, lang string) string {
	o := v.Opts
	o.Plain = true
	whole, part, _ := strings.Cut(strings.TrimPrefix(number.Format(&number.Marks{}, "en", v.Num, o), "-"), ".")
	whole = strings.TrimLeft(whole, "0")
	if whole == "" {
		whole = "0"
	}
	if o.Rank {
		return plural.Rank(lang, long(false, whole, part)).Word()
	}
	return plural.Of(lang, long(false, whole, part)).Word()
}

// plainIs is Is by the chapter's words.
func plainIs(v value.Value, key, lang string) bool {
	d, isNumber := dec.Parse(key)
	switch {
	case v.Kind == value.Text:
		return key == v.Text
	case v.Kind != value.Number:
		return false
	case isNumber:
		return v.Num.Compare(d) == 0
	}
	return key == plainWord(v, lang)
}

func TestP14_2AgainstThePlainForm(t *testing.T) {
	random := rand.New(rand.NewPCG(14, 2))
	langs := [...]string{"en", "de", "nl", "sv", "fr", "es", "pl", "ru", "cs", "ar", "ja", "", "EN"}
	m := &number.Marks{}
	met := map[bool]int{}
	for range 200_000 {
		v, lang := someValue(random), langs[random.IntN(len(langs))]
		if !v.Num.Right() {
			t.Fatalf("%+v isn't Right", v.Num)
		}
		if got, want := v.String(m, lang), plainString(v, lang); got != want {
			t.Fatalf("in %q %+v is %q, want %q", lang, v, got, want)
		}
		key := someKey(random, v)
		want := plainIs(v, key, lang)
		if got := v.Is(key, lang); got != want {
			t.Fatalf("in %q %+v is %q: %v", lang, v, key, got)
		}
		met[want]++
	}
	if met[true] < 10_000 || met[false] < 10_000 {
		t.Errorf("of the keys %d were meant, %d weren't", met[true], met[false])
	}
}

func TestP14_1WrittenIsWritten(t *testing.T) {
	random := rand.New(rand.NewPCG(14, 1))
	m := &number.Marks{}
	for range 50_000 {
		d := someNumber(random)
		if len(d.Digits) > api.MaxDigits || d.Scale > number.MaxFrac {
			continue
		}
		v := value.Written(d.String())
		v.Opts.Plain = true
		want := d.String() // it is written in English as it stands, but for nought's hyphen
		if d.Zero() {
			want = strings.TrimPrefix(want, "-")
		}
		if got := v.String(m, "en"); got != want {
			t.Fatalf("%s is %q", d, got)
		}
		if !v.Is(d.String(), "en") {
			t.Fatalf("%s isn't itself", d)
		}
	}
}
