package number_test

import (
	"math/big"
	"math/rand/v2"
	"slices"
	"strconv"
	"strings"
	"testing"

	"polyglot/api"
	"polyglot/dec"
	"polyglot/number"
)

const (
	minInt  = "minimumIntegerDigits"
	minFrac = "minimumFractionDigits"
	maxFrac = "maximumFractionDigits"
)

func parsed(t *testing.T, s string) dec.Dec {
	t.Helper()
	d, ok := dec.Parse(s)
	if !ok {
		t.Fatalf("%q tells no number", s)
	}
	return d
}

// long is a number that has more digits than a text can tell.
func long(neg bool, whole, part string) dec.Dec {
	return dec.Dec{Neg: neg, Digits: whole + part, Scale: len(part)}
}

func TestP12_1Default(t *testing.T) {
	if got := number.Default(); got != (number.Opts{MinInt: 1, MinFrac: 0, MaxFrac: 3}) {
		t.Errorf("%+v", got)
	}
	if number.MaxFrac != 20 {
		t.Errorf("MaxFrac is %d", number.MaxFrac)
	}
}

// someOpts is some ways to write a number, none of whose fields is as in another one.
func someOpts() []number.Opts {
	return []number.Opts{
		number.Default(),
		{MinInt: 7, MinFrac: 4, MaxFrac: 9, Plain: true, Rank: true},
		{MinInt: 20, MinFrac: 20, MaxFrac: 20, Rank: true},
		{MinInt: 2, MinFrac: 0, MaxFrac: 0, Plain: true},
	}
}

func checkSet(t *testing.T, o number.Opts, name, text string, d dec.Dec, isText bool, want number.Opts) {
	t.Helper()
	before := o
	got, e := o.Set(name, text, d, isText)
	if e != api.OK || got != want {
		t.Errorf("Set of %+v (%s, %q, %s, %v) is %+v, %s, want %+v", before, name, text, d, isText, got, e.Word(), want)
	}
	if o != before {
		t.Errorf("%+v came to be %+v", before, o)
	}
}

func checkNoSet(t *testing.T, name, text string, d dec.Dec, isText bool) {
	t.Helper()
	for _, o := range someOpts() {
		if got, e := o.Set(name, text, d, isText); e != api.ErrArg || got != (number.Opts{}) {
			t.Errorf("Set of %+v (%s, %q, %+v, %v) is %+v, %s", o, name, text, d, isText, got, e.Word())
		}
	}
}

func TestP12_1SetText(t *testing.T) {
	for _, o := range someOpts() {
		plain, grouped, rank, count := o, o, o, o
		plain.Plain, grouped.Plain, rank.Rank, count.Rank = true, false, true, false
		for _, d := range []dec.Dec{{}, dec.Int(0), dec.Int(1), dec.Int(-1), parsed(t, "1.5")} { // none of them is asked for
			checkSet(t, o, "useGrouping", "false", d, true, plain)
			checkSet(t, o, "useGrouping", "true", d, true, grouped)
			checkSet(t, o, "type", "ordinal", d, true, rank)
			checkSet(t, o, "type", "cardinal", d, true, count)
		}
	}
}

func TestP12_1NoText(t *testing.T) {
	for _, text := range []string{"", "True", "FALSE", "yes", "no", "0", "1", "true ", " false", "truefalse", "tru", "falsee", "ordinal", "cardinal", "always", "\xff"} {
		checkNoSet(t, "useGrouping", text, dec.Int(1), true)
	}
	for _, text := range []string{"", "Ordinal", "CARDINAL", "ordinal ", " cardinal", "ordinals", "true", "false", "rank", "1", "\x00"} {
		checkNoSet(t, "type", text, dec.Int(1), true)
	}
	for _, name := range []string{minInt, minFrac, maxFrac} {
		for _, text := range []string{"", "1", "0", "true", "false", "ordinal", "cardinal"} {
			checkNoSet(t, name, text, dec.Int(1), true)
		}
	}
}

func TestP12_1NoName(t *testing.T) {
	names := []string{"", "x", "usegrouping", "UseGrouping", "useGrouping ", " type", "Type", "types", "minimumIntegerDigit", "MinimumIntegerDigits", "minimumintegerdigits",
		"minimumFractionDigits ", "maximumIntegerDigits", "maximumFractionDigit", "MinInt", "MinFrac", "MaxFrac", "Plain", "Rank", "style", "minimumSignificantDigits", "\xff"}
	for _, name := range names {
		for _, text := range []string{"", "true", "false", "ordinal", "cardinal", "1"} {
			checkNoSet(t, name, text, dec.Int(1), true)
			checkNoSet(t, name, text, dec.Int(1), false)
		}
	}
	for _, name := range []string{"useGrouping", "type"} { // which are of texts alone
		for _, text := range []string{"", "true", "false", "ordinal", "cardinal"} {
			checkNoSet(t, name, text, dec.Int(0), false)
			checkNoSet(t, name, text, dec.Int(1), false)
		}
	}
}

func TestP12_1SetNumber(t *testing.T) {
	for _, o := range someOpts() {
		for n := range number.MaxFrac + 1 {
			withInt, withLeast, withMost := o, o, o
			withInt.MinInt = n
			withLeast.MinFrac = n
			if withLeast.MaxFrac < n {
				withLeast.MaxFrac = n
			}
			withMost.MaxFrac = n
			if withMost.MinFrac > n {
				withMost.MinFrac = n
			}
			for _, part := range []string{"", "0", "000", strings.Repeat("0", 38)} {
				d := long(false, strconv.Itoa(n), part)
				for _, text := range []string{"", "5", "true"} { // which isn't asked for
					if n != 0 {
						checkSet(t, o, minInt, text, d, false, withInt)
					}
					checkSet(t, o, minFrac, text, d, false, withLeast)
					checkSet(t, o, maxFrac, text, d, false, withMost)
				}
			}
		}
	}
}

func TestP12_1NoNumber(t *testing.T) {
	noughts := strings.Repeat("0", 50)
	for _, name := range []string{minInt, minFrac, maxFrac} {
		for _, s := range []string{"21", "22", "100", "-1", "-2", "-20", "-21", "-1.0", "0.5", "1.5", "-0.5", "19.9", "20.1", "20.5", "0.1", "0.001", "1.01", "1.10", "21.0", "20.00001",
			"18446744073709551617", "9223372036854775808", "4294967297", "-18446744073709551615", "1000000000000000000000000000000000000000"} {
			checkNoSet(t, name, "", parsed(t, s), false)
		}
		checkNoSet(t, name, "", long(false, "1"+noughts, ""), false)
		checkNoSet(t, name, "", long(false, "1", noughts+"1"), false)
		checkNoSet(t, name, "", long(true, "0", noughts+"1"), false)
		checkNoSet(t, name, "", long(false, "20", noughts+"1"), false)
	}
	for _, s := range []string{"0", "-0", "0.0", "-0.000"} {
		checkNoSet(t, minInt, "", parsed(t, s), false)
	}
}

// TestP12_1SetNought is of nought with a hyphen, which isn't below nought.
func TestP12_1SetNought(t *testing.T) {
	for _, s := range []string{"0", "-0", "0.00", "-0.00"} {
		o := number.Opts{MinInt: 3, MinFrac: 2, MaxFrac: 5, Plain: true}
		checkSet(t, o, minFrac, "", parsed(t, s), false, number.Opts{MinInt: 3, MinFrac: 0, MaxFrac: 5, Plain: true})
		checkSet(t, o, maxFrac, "", parsed(t, s), false, number.Opts{MinInt: 3, MinFrac: 0, MaxFrac: 0, Plain: true})
	}
}

func TestP12_1SetOnAndOn(t *testing.T) {
	o := number.Default()
	for _, x := range []struct {
		name, text, n string
		want          number.Opts
	}{
		{minFrac, "", "4", number.Opts{MinInt: 1, MinFrac: 4, MaxFrac: 4}},
		{maxFrac, "", "6", number.Opts{MinInt: 1, MinFrac: 4, MaxFrac: 6}},
		{minFrac, "", "5", number.Opts{MinInt: 1, MinFrac: 5, MaxFrac: 6}},
		{maxFrac, "", "1", number.Opts{MinInt: 1, MinFrac: 1, MaxFrac: 1}},
		{"type", "ordinal", "", number.Opts{MinInt: 1, MinFrac: 1, MaxFrac: 1, Rank: true}},
		{minInt, "", "5.0", number.Opts{MinInt: 5, MinFrac: 1, MaxFrac: 1, Rank: true}},
		{"useGrouping", "false", "", number.Opts{MinInt: 5, MinFrac: 1, MaxFrac: 1, Plain: true, Rank: true}},
		{minFrac, "", "0", number.Opts{MinInt: 5, MinFrac: 0, MaxFrac: 1, Plain: true, Rank: true}},
		{"type", "cardinal", "", number.Opts{MinInt: 5, MinFrac: 0, MaxFrac: 1, Plain: true}},
		{minFrac, "", "20", number.Opts{MinInt: 5, MinFrac: 20, MaxFrac: 20, Plain: true}},
		{"useGrouping", "true", "", number.Opts{MinInt: 5, MinFrac: 20, MaxFrac: 20}},
		{maxFrac, "", "0", number.Opts{MinInt: 5}},
	} {
		d, isNumber := dec.Parse(x.n)
		checkSet(t, o, x.name, x.text, d, !isNumber, x.want)
		o, _ = o.Set(x.name, x.text, d, !isNumber)
	}
}

func TestP12_2Shape(t *testing.T) {
	twenty, forty := strings.Repeat("0", 20), strings.Repeat("7", 40)
	for _, x := range []struct {
		minInt, minFrac, maxFrac int
		d                        dec.Dec
		want                     dec.Dec
	}{
		{1, 0, 3, parsed(t, "0"), dec.Dec{Digits: "0"}},
		{1, 0, 3, parsed(t, "-0"), dec.Dec{Neg: true, Digits: "0"}},
		{1, 0, 3, parsed(t, "0.000"), dec.Dec{Digits: "0"}},
		{1, 0, 3, parsed(t, "12"), dec.Dec{Digits: "12"}},
		{1, 0, 3, parsed(t, "100"), dec.Dec{Digits: "100"}},
		{1, 0, 3, parsed(t, "-12.50"), dec.Dec{Neg: true, Digits: "125", Scale: 1}},
		{1, 0, 3, parsed(t, "1.2345"), dec.Dec{Digits: "1234", Scale: 3}},
		{1, 0, 3, parsed(t, "1.2355"), dec.Dec{Digits: "1236", Scale: 3}},
		{1, 0, 3, parsed(t, "1.23450001"), dec.Dec{Digits: "1235", Scale: 3}},
		{1, 0, 3, parsed(t, "1.2995"), dec.Dec{Digits: "13", Scale: 1}}, // first rounded, then trimmed
		{1, 0, 3, parsed(t, "9.9996"), dec.Dec{Digits: "10"}},
		{1, 0, 3, parsed(t, "-0.0004"), dec.Dec{Neg: true, Digits: "0"}},
		{1, 0, 0, parsed(t, "2.5"), dec.Dec{Digits: "2"}},
		{1, 0, 0, parsed(t, "3.5"), dec.Dec{Digits: "4"}},
		{1, 0, 0, parsed(t, "999.5"), dec.Dec{Digits: "1000"}},
		{1, 2, 2, parsed(t, "1"), dec.Dec{Digits: "100", Scale: 2}},
		{1, 2, 4, parsed(t, "1.5"), dec.Dec{Digits: "150", Scale: 2}},
		{1, 2, 4, parsed(t, "1.5000"), dec.Dec{Digits: "150", Scale: 2}},
		{1, 2, 4, parsed(t, "1.56700"), dec.Dec{Digits: "1567", Scale: 3}},
		{1, 2, 4, parsed(t, "1.99996"), dec.Dec{Digits: "200", Scale: 2}},
		{1, 20, 20, parsed(t, "1"), dec.Dec{Digits: "1" + twenty, Scale: 20}},
		{1, 20, 20, long(false, forty, twenty[1:]+"1"), dec.Dec{Digits: forty + twenty[1:] + "1", Scale: 20}},
		{1, 0, 20, long(true, "0", twenty+"5"+twenty), dec.Dec{Neg: true, Digits: "0"}},
		{1, 0, 20, long(true, "0", twenty+"51"), dec.Dec{Neg: true, Digits: "0" + twenty[1:] + "1", Scale: 20}},
		{1, 0, 3, long(false, forty+twenty, ""), dec.Dec{Digits: forty + twenty}},
		{1, 0, 0, long(false, strings.Repeat("9", 59), "5"), dec.Dec{Digits: "1" + strings.Repeat("0", 59)}},
		{2, 0, 3, parsed(t, "5"), dec.Dec{Digits: "05"}},
		{2, 0, 3, parsed(t, "15"), dec.Dec{Digits: "15"}},
		{2, 0, 3, parsed(t, "115"), dec.Dec{Digits: "115"}},
		{2, 0, 0, parsed(t, "9.5"), dec.Dec{Digits: "10"}}, // first rounded, then with noughts
		{3, 0, 3, parsed(t, "0"), dec.Dec{Digits: "000"}},
		{3, 0, 3, parsed(t, "-0.05"), dec.Dec{Neg: true, Digits: "00005", Scale: 2}},
		{4, 1, 3, parsed(t, "-1"), dec.Dec{Neg: true, Digits: "00010", Scale: 1}},
		{20, 0, 3, parsed(t, "1.5"), dec.Dec{Digits: twenty[1:] + "15", Scale: 1}},
		{20, 20, 20, parsed(t, "0"), dec.Dec{Digits: twenty + twenty, Scale: 20}},
	} {
		for _, o := range []number.Opts{{}, {Plain: true}, {Rank: true}} {
			o.MinInt, o.MinFrac, o.MaxFrac = x.minInt, x.minFrac, x.maxFrac
			if got := o.Shape(x.d); got != x.want {
				t.Errorf("Shape of %s by %+v is %+v, want %+v", x.d, o, got, x.want)
			}
		}
	}
}

func TestP12_3Format(t *testing.T) {
	plain := number.Opts{MinInt: 1, MaxFrac: 3, Plain: true}
	wide := number.Opts{MinInt: 5, MinFrac: 1, MaxFrac: 1}
	money := number.Opts{MinInt: 1, MinFrac: 2, MaxFrac: 2}
	for _, x := range []struct {
		lang string
		o    number.Opts
		n    string
		want string
	}{
		{"en", number.Default(), "1234.5", "1,234.5"},
		{"de", number.Default(), "1234.5", "1.234,5"},
		{"en", number.Default(), "0", "0"},
		{"en", number.Default(), "-0", "0"},
		{"en", number.Default(), "-0.0004", "0"},
		{"en", number.Default(), "-0.0005", "0"},
		{"en", number.Default(), "-0.0006", "-0.001"},
		{"en", number.Default(), "-1", "-1"},
		{"en", number.Default(), "-999", "-999"},
		{"en", number.Default(), "-1000", "-1,000"},
		{"en", number.Default(), "999.9995", "1,000"},
		{"en", number.Default(), "12345678901234567890.12345", "12,345,678,901,234,567,890.123"},
		{"en", number.Default(), "0.125000", "0.125"},
		{"en", number.Default(), "1234.000", "1,234"},
		{"en", number.Opts{MinInt: 1, MaxFrac: 20}, "0.12345678", "0.12345678"}, // no groups behind the point
		{"de", number.Default(), "-1234567.8915", "-1.234.567,892"},
		{"nl", number.Default(), "1234567.8", "1.234.567,8"},
		{"es", number.Default(), "1234.5", "1.234,5"},
		{"fr", number.Default(), "1234567.5", "1\u202f234\u202f567,5"},
		{"ru", number.Default(), "-1234.50", "-1\u00a0234,5"},
		{"cs", number.Default(), "1234.5", "1\u00a0234,5"},
		{"pl", number.Default(), "1234.5", "1\u00a0234,5"},
		{"sv", number.Default(), "1234.5", "1\u00a0234,5"},
		{"ar", number.Default(), "1234.5", "1,234.5"},
		{"", number.Default(), "1234.5", "1,234.5"},
		{"en", plain, "1234567.5", "1234567.5"},
		{"de", plain, "-1234567.5", "-1234567,5"},
		{"fr", plain, "1234", "1234"},
		{"en", wide, "12", "00,012.0"},
		{"de", wide, "-12.34", "-00.012,3"},
		{"en", wide, "-0.04", "00,000.0"},
		{"en", wide, "-0.06", "-00,000.1"},
		{"en", number.Opts{MinInt: 5, MinFrac: 1, MaxFrac: 1, Plain: true}, "12", "00012.0"},
		{"en", number.Opts{MinInt: 4, MaxFrac: 3}, "-7", "-0,007"},
		{"en", number.Opts{MinInt: 2}, "9.5", "10"}, // first rounded, then with noughts
		{"en", number.Opts{MinInt: 4}, "999.5", "1,000"},
		{"en", money, "-1234.565", "-1,234.56"},
		{"sv", money, "1234", "1\u00a0234,00"},
		{"en", number.Opts{MinInt: 20, MinFrac: 20, MaxFrac: 20}, "1", "00,000,000,000,000,000,001.00000000000000000000"},
		{"en", number.Opts{MinInt: 1, MaxFrac: 0}, "0.5", "0"},
		{"en", number.Opts{MinInt: 1, MaxFrac: 0}, "-0.5", "0"},
		{"en", number.Opts{MinInt: 1, MaxFrac: 0}, "-1.5", "-2"},
	} {
		for _, isRank := range []bool{false, true} {
			x.o.Rank = isRank
			if got := number.Format(&number.Marks{}, x.lang, parsed(t, x.n), x.o); got != x.want {
				t.Errorf("in %q %s by %+v is %q, want %q", x.lang, x.n, x.o, got, x.want)
			}
		}
	}
}

// rounded is a number without its point and sign, when it has so many digits behind the point, by layer 2's words.
func rounded(d dec.Dec, maxFrac int) *big.Int {
	size, _ := new(big.Int).SetString(d.Digits, 10)
	ten := big.NewInt(10)
	if d.Scale <= maxFrac {
		return size.Mul(size, new(big.Int).Exp(ten, big.NewInt(int64(maxFrac-d.Scale)), nil))
	}
	one := new(big.Int).Exp(ten, big.NewInt(int64(d.Scale-maxFrac)), nil)
	rest := new(big.Int)
	size.DivMod(size, one, rest)
	side := rest.Lsh(rest, 1).Cmp(one)
	if side > 0 || side == 0 && size.Bit(0) == 1 {
		size.Add(size, big.NewInt(1))
	}
	return size
}

// plain is the Shape of a number by the chapter's words: whether it is below nought, and the digits ahead of the point, and behind it.
func plain(d dec.Dec, o number.Opts) (bool, string, string) {
	size := rounded(d, o.MaxFrac)
	digits := size.String()
	for len(digits) < o.MaxFrac+1 {
		digits = "0" + digits
	}
	whole, part := digits[:len(digits)-o.MaxFrac], digits[len(digits)-o.MaxFrac:]
	for len(part) > o.MinFrac && strings.HasSuffix(part, "0") {
		part = part[:len(part)-1]
	}
	for len(whole) < o.MinInt {
		whole = "0" + whole
	}
	return d.Neg && size.Sign() != 0, whole, part
}

// plainFormat is Format by the chapter's words, group by group.
func plainFormat(lang string, d dec.Dec, o number.Opts) string {
	signs, ok := languages()[lang]
	if !ok {
		signs = usual
	}
	below, whole, part := plain(d, o)
	var groups []string
	for !o.Plain && len(whole) > 3 {
		groups = append([]string{whole[len(whole)-3:]}, groups...)
		whole = whole[:len(whole)-3]
	}
	out := strings.Join(append([]string{whole}, groups...), signs[1])
	if part != "" {
		out += signs[0] + part
	}
	if below {
		return "-" + out
	}
	return out
}

// someNumber is a Right number of up to 60 digits, rich in nines, noughts and fives.
func someNumber(random *rand.Rand) dec.Dec {
	signs := [...]string{"0123456789", "09", "05", "0459", "9"}[random.IntN(5)]
	length := 1 + random.IntN([...]int{4, 12, 60}[random.IntN(3)])
	digits := make([]byte, length)
	for i := range digits {
		digits[i] = signs[random.IntN(len(signs))]
	}
	d := dec.Dec{Neg: random.IntN(2) == 0, Digits: string(digits), Scale: random.IntN(length)}
	if digits[0] == '0' {
		d.Scale = length - 1
	}
	return d
}

// someSet is the usual options, turned a few times.
func someSet(random *rand.Rand) number.Opts {
	o := number.Default()
	for range random.IntN(5) {
		name := [...]string{minInt, minFrac, maxFrac}[random.IntN(3)]
		if next, e := o.Set(name, "", dec.Int(random.Int64N(21)), false); e == api.OK {
			o = next
		}
	}
	o.Plain, o.Rank = random.IntN(3) == 0, random.IntN(3) == 0
	return o
}

func TestP12_2P12_3AgainstThePlainForm(t *testing.T) {
	random := rand.New(rand.NewPCG(12, 3))
	langs := []string{"en", "ja", "x"}
	for lang := range languages() {
		langs = append(langs, lang)
	}
	slices.Sort(langs)
	m := &number.Marks{}
	const count = 200_000
	for range count {
		d, o, lang := someNumber(random), someSet(random), langs[random.IntN(len(langs))]
		if !d.Right() {
			t.Fatalf("%+v isn't Right", d)
		}
		_, whole, part := plain(d, o)
		if got, want := o.Shape(d), long(d.Neg, whole, part); got != want {
			t.Fatalf("Shape of %s by %+v is %+v, want %+v", d, o, got, want)
		}
		if got, want := number.Format(m, lang, d, o), plainFormat(lang, d, o); got != want {
			t.Fatalf("in %q %s by %+v is %q, want %q", lang, d, o, got, want)
		}
	}
	if m.Asked() != count {
		t.Errorf("asked %d times", m.Asked())
	}
}
