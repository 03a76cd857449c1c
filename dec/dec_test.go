package dec_test

import (
	"math"
	"math/big"
	"math/rand/v2"
	"strings"
	"testing"

	"polyglot/api"
	"polyglot/dec"
)

func parsed(t *testing.T, s string) dec.Dec {
	t.Helper()
	d, ok := dec.Parse(s)
	if !ok || !d.Right() {
		t.Fatalf("Parse(%q) = %+v, %v", s, d, ok)
	}
	return d
}

// ratio is a number's worth.
func ratio(d dec.Dec) *big.Rat {
	n, ok := new(big.Int).SetString(d.Digits, 10)
	if !ok {
		panic(d.Digits)
	}
	if d.Neg {
		n.Neg(n)
	}
	ten := new(big.Int).Exp(big.NewInt(10), big.NewInt(int64(d.Scale)), nil)
	return new(big.Rat).SetFrac(n, ten)
}

// someNumber is a Right number of up to 100 digits, rich in nines, noughts and fives.
func someNumber(random *rand.Rand) dec.Dec {
	signs := [...]string{"0123456789", "09", "05", "0459", "9"}[random.IntN(5)]
	length := 1 + random.IntN([...]int{4, 12, 100}[random.IntN(3)])
	digits := make([]byte, length)
	for i := range digits {
		digits[i] = signs[random.IntN(len(signs))]
	}
	d := dec.Dec{Neg: random.IntN(2) == 0, Digits: string(digits), Scale: random.IntN(length)}
	if digits[0] == '0' {
		d.Scale = length - 1
	}
	return d
}

func TestP2_1Parse(t *testing.T) {
	for s, want := range map[string]dec.Dec{
		"0":        {Digits: "0"},
		"-0":       {Neg: true, Digits: "0"},
		"00":       {Digits: "0"},
		"-000":     {Neg: true, Digits: "0"},
		"0.0":      {Digits: "00", Scale: 1},
		"00.00":    {Digits: "000", Scale: 2},
		"-0.00":    {Neg: true, Digits: "000", Scale: 2},
		"7":        {Digits: "7"},
		"007":      {Digits: "7"},
		"007.50":   {Digits: "750", Scale: 2},
		"100":      {Digits: "100"},
		"0.05":     {Digits: "005", Scale: 2},
		"000.05":   {Digits: "005", Scale: 2},
		"-12.5":    {Neg: true, Digits: "125", Scale: 1},
		"10.010":   {Digits: "10010", Scale: 3},
		"23456789": {Digits: "23456789"},
	} {
		if got := parsed(t, s); got != want {
			t.Errorf("Parse(%q) = %+v, want %+v", s, got, want)
		}
	}
	for _, s := range []string{
		"", "-", ".", "-.", ".5", "-.5", "5.", "-5.", "1.2.3", "1..2", "--1", "+1", "1-", "1-2", "-+1", "1.-2",
		" 1", "1 ", "- 1", "1e5", "1E5", "0x1", "1_0", "1,5", "1,000", "a", "1a", "a1", "1.a", "1.5a", "/", ":", "1/2", "1:2",
		"\x00", "1\x00", "1\n", "\xff", "١", "１", "NaN", "Inf",
	} {
		if got, ok := dec.Parse(s); ok || got != (dec.Dec{}) {
			t.Errorf("Parse(%q) = %+v, %v", s, got, ok)
		}
	}
}

func TestP2_1ParseMaxDigits(t *testing.T) {
	nines, noughts := strings.Repeat("9", api.MaxDigits), strings.Repeat("0", api.MaxDigits)
	for _, s := range []string{nines, "-" + nines, nines[:1] + "." + nines[1:], "-" + nines[:39] + "." + nines[39:], noughts, "0." + noughts[1:], noughts[1:] + "1"} {
		parsed(t, s)
	}
	for _, s := range []string{nines + "9", "-" + nines + "9", nines + ".9", "9." + nines, "0" + nines, noughts + "0", "0." + noughts, noughts + "1"} {
		if got, ok := dec.Parse(s); ok || got != (dec.Dec{}) {
			t.Errorf("Parse(%q) = %+v, %v", s, got, ok)
		}
	}
}

func TestP2_1Int(t *testing.T) {
	for n, want := range map[int64]dec.Dec{
		0:             {Digits: "0"},
		1:             {Digits: "1"},
		-1:            {Neg: true, Digits: "1"},
		10:            {Digits: "10"},
		-120:          {Neg: true, Digits: "120"},
		math.MaxInt64: {Digits: "9223372036854775807"},
		math.MinInt64: {Neg: true, Digits: "9223372036854775808"},
	} {
		if got := dec.Int(n); got != want || !got.Right() {
			t.Errorf("Int(%d) = %+v", n, got)
		}
	}
}

func TestP2_1Right(t *testing.T) {
	for d, want := range map[dec.Dec]bool{
		{Digits: "0"}:                               true,
		{Neg: true, Digits: "0"}:                    true,
		{Digits: "1"}:                               true,
		{Digits: "00", Scale: 1}:                    true,
		{Digits: "05", Scale: 1}:                    true,
		{Digits: "1200", Scale: 3}:                  true,
		{Digits: "1200", Scale: 2}:                  true,
		{Digits: strings.Repeat("9", 200)}:          true,
		{}:                                          false,
		{Scale: 1}:                                  false,
		{Digits: "00"}:                              false,
		{Digits: "012", Scale: 1}:                   false,
		{Digits: "5", Scale: 1}:                     false,
		{Digits: "0", Scale: 1}:                     false,
		{Digits: "12", Scale: 3}:                    false,
		{Digits: "12", Scale: -1}:                   false,
		{Digits: "12", Scale: math.MinInt}:          false,
		{Digits: "12", Scale: math.MaxInt}:          false,
		{Digits: "-1"}:                              false,
		{Digits: "1.5"}:                             false,
		{Digits: "1a"}:                              false,
		{Digits: "1/"}:                              false,
		{Digits: "1:"}:                              false,
		{Digits: " 1"}:                              false,
		{Digits: "٣"}:                               false,
		{Digits: "1\xff", Scale: 1}:                 false,
		{Neg: true, Digits: "05", Scale: 0}:         false,
		{Neg: true, Digits: "0000000001", Scale: 9}: true,
	} {
		if d.Right() != want {
			t.Errorf("Right of %+v is %v", d, !want)
		}
	}
}

func TestP2_1Pieces(t *testing.T) {
	for _, x := range []struct {
		d                   dec.Dec
		text, whole, behind string
		zero                bool
	}{
		{dec.Dec{Digits: "0"}, "0", "0", "", true},
		{dec.Dec{Neg: true, Digits: "0"}, "-0", "0", "", true},
		{dec.Dec{Digits: "000", Scale: 2}, "0.00", "0", "00", true},
		{dec.Dec{Neg: true, Digits: "00", Scale: 1}, "-0.0", "0", "0", true},
		{dec.Dec{Digits: "001", Scale: 2}, "0.01", "0", "01", false},
		{dec.Dec{Digits: "100"}, "100", "100", "", false},
		{dec.Dec{Neg: true, Digits: "12050", Scale: 2}, "-120.50", "120", "50", false},
		{dec.Dec{Digits: "9", Scale: 0}, "9", "9", "", false},
	} {
		if x.d.String() != x.text || x.d.Whole() != x.whole || x.d.Part() != x.behind || x.d.Zero() != x.zero {
			t.Errorf("%+v: %q, %q, %q, %v", x.d, x.d.String(), x.d.Whole(), x.d.Part(), x.d.Zero())
		}
	}
}

func TestP2_1WrittenIsRead(t *testing.T) {
	random := rand.New(rand.NewPCG(3, 3))
	for range 50_000 {
		d := someNumber(random)
		if !d.Right() {
			t.Fatalf("Right of %+v is false", d)
		}
		got, ok := dec.Parse(d.String())
		if fits := len(d.Digits) <= api.MaxDigits; ok != fits || ok && got != d {
			t.Fatalf("Parse of %+v = %+v, %v", d, got, ok)
		}
		if d.Zero() != (ratio(d).Sign() == 0) {
			t.Fatalf("Zero of %+v", d)
		}
	}
}

func TestP2_2Compare(t *testing.T) {
	for _, x := range []struct {
		a, b string
		want int
	}{
		{"0", "0", 0}, {"-0", "0", 0}, {"0.00", "-0", 0}, {"-0.0", "-0", 0}, {"-0", "0.1", -1}, {"-0", "-0.1", 1}, {"0", "-0.1", 1},
		{"1", "1.0", 0}, {"1.50", "1.5", 0}, {"-1.50", "-1.5", 0}, {"1", "2", -1}, {"2", "1", 1}, {"-1", "-2", 1}, {"-2", "-1", -1},
		{"-2", "1", -1}, {"1", "-2", 1}, {"10", "9.99", 1}, {"9.99", "10", -1}, {"-10", "-9.99", -1}, {"100", "99", 1},
		{"0.1", "0.09", 1}, {"0.09", "0.1", -1}, {"1.1", "1.01", 1}, {"1.5", "1.45", 1}, {"1.001", "1", 1}, {"-1.001", "-1", -1},
		{"0.5", "5", -1}, {"12", "1.2", 1}, {"1", "0.99999", 1}, {"007", "7.0", 0},
	} {
		if got := parsed(t, x.a).Compare(parsed(t, x.b)); got != x.want {
			t.Errorf("Compare of %s and %s is %d", x.a, x.b, got)
		}
	}
	random := rand.New(rand.NewPCG(4, 4))
	for range 50_000 {
		d, o := someNumber(random), someNumber(random)
		if random.IntN(4) == 0 {
			o = d.Round(random.IntN(d.Scale + 1)).Pad(random.IntN(9))
		}
		if got := d.Compare(o); got != ratio(d).Cmp(ratio(o)) {
			t.Fatalf("Compare of %s and %s is %d", d, o, got)
		}
	}
}

func TestP2_2RoundExamples(t *testing.T) {
	for _, x := range []struct {
		s     string
		scale int
		want  string
	}{
		{"2.5", 0, "2"}, {"3.5", 0, "4"}, {"0.5", 0, "0"}, {"1.5", 0, "2"}, {"-0.5", 0, "-0"}, {"-1.5", 0, "-2"}, {"-2.5", 0, "-2"}, {"-3.5", 0, "-4"},
		{"2.51", 0, "3"}, {"2.5001", 0, "3"}, {"2.500", 0, "2"}, {"3.500", 0, "4"}, {"2.49", 0, "2"}, {"3.4999", 0, "3"}, {"2.6", 0, "3"}, {"2.4", 0, "2"},
		{"9.5", 0, "10"}, {"9.4", 0, "9"}, {"99.5", 0, "100"}, {"9.99", 1, "10.0"}, {"9.95", 1, "10.0"}, {"9.85", 1, "9.8"}, {"0.99", 1, "1.0"}, {"0.999", 2, "1.00"},
		{"0.05", 1, "0.0"}, {"0.15", 1, "0.2"}, {"0.25", 1, "0.2"}, {"0.051", 1, "0.1"}, {"0.049", 1, "0.0"}, {"-0.04", 1, "-0.0"},
		{"1.2", 5, "1.2"}, {"1.2", 1, "1.2"}, {"1.200", 3, "1.200"}, {"1.200", 2, "1.20"}, {"1.005", 2, "1.00"}, {"1.015", 2, "1.02"},
		{"12", 0, "12"}, {"12", -1, "12"}, {"15", -1, "15"}, {"2.5", -1, "2"}, {"3.5", math.MinInt, "4"}, {"3.5", math.MaxInt, "3.5"},
	} {
		if got := parsed(t, x.s).Round(x.scale); got.String() != x.want || !got.Right() {
			t.Errorf("Round of %s to %d is %+v, want %s", x.s, x.scale, got, x.want)
		}
	}
}

// checkRound holds a rounded number against what the promise says of it.
func checkRound(t *testing.T, d dec.Dec, scale int) {
	t.Helper()
	got := d.Round(scale)
	if d.Scale <= max(scale, 0) {
		if got != d {
			t.Fatalf("Round of %s to %d is %+v", d, scale, got)
		}
		return
	}
	if !got.Right() || got.Scale != max(scale, 0) || got.Neg != d.Neg {
		t.Fatalf("Round of %s to %d is %+v", d, scale, got)
	}
	far := new(big.Rat).Sub(ratio(d), ratio(got))
	half := new(big.Rat).Mul(ratio(dec.Dec{Digits: "5"}), ratio(dec.Dec{Digits: "1", Scale: got.Scale + 1}))
	near := far.Abs(far).Cmp(half)
	if last := got.Digits[len(got.Digits)-1] - '0'; near > 0 || near == 0 && last%2 == 1 {
		t.Fatalf("Round of %s to %d is %s", d, scale, got)
	}
}

func TestP2_2RoundNearest(t *testing.T) {
	for n := range int64(10_000) {
		d := dec.Int(n)
		for d.Scale = range len(d.Digits) {
			if d.Right() {
				for scale := -1; scale <= d.Scale+1; scale++ {
					checkRound(t, d, scale)
				}
			}
		}
		small := dec.Dec{Neg: n%2 == 1, Digits: "00" + d.Digits, Scale: len(d.Digits) + 1}
		for scale := range small.Scale {
			checkRound(t, small, scale)
		}
	}
	random := rand.New(rand.NewPCG(5, 5))
	for range 50_000 {
		d := someNumber(random)
		checkRound(t, d, random.IntN(len(d.Digits)+2)-1)
	}
}

func TestP2_2Trim(t *testing.T) {
	for _, x := range []struct {
		s     string
		least int
		want  string
	}{
		{"1.500", 0, "1.5"}, {"1.500", 1, "1.5"}, {"1.500", 2, "1.50"}, {"1.500", 3, "1.500"}, {"1.500", 4, "1.500"}, {"1.500", -1, "1.5"},
		{"1.000", 0, "1"}, {"1.000", 1, "1.0"}, {"1.000", -7, "1"}, {"100", 0, "100"}, {"100", -2, "100"}, {"100.00", -2, "100"}, {"100.00", 1, "100.0"},
		{"0.00", 0, "0"}, {"-0.00", 0, "-0"}, {"0.00", 1, "0.0"}, {"1.050", 0, "1.05"}, {"1.0501", 0, "1.0501"}, {"1.5", math.MinInt, "1.5"}, {"1.50", math.MaxInt, "1.50"},
		{"-2.20", 0, "-2.2"}, {"10.10", 0, "10.1"},
	} {
		if got := parsed(t, x.s).Trim(x.least); got.String() != x.want || !got.Right() {
			t.Errorf("Trim of %s to %d is %+v, want %s", x.s, x.least, got, x.want)
		}
	}
	random := rand.New(rand.NewPCG(6, 6))
	for range 20_000 {
		d, least := someNumber(random), random.IntN(12)-2
		got := d.Trim(least)
		floor := max(least, 0)
		ended := got.Scale <= floor || !strings.HasSuffix(got.Digits, "0")
		if !got.Right() || got.Neg != d.Neg || got.Compare(d) != 0 || got.Scale > d.Scale || got.Scale < min(floor, d.Scale) || !ended {
			t.Fatalf("Trim of %s to %d is %+v", d, least, got)
		}
	}
}

func TestP2_2Pad(t *testing.T) {
	forty := strings.Repeat("0", api.MaxDigits)
	for _, x := range []struct {
		s     string
		least int
		want  string
	}{
		{"1", 0, "1"}, {"1", -1, "1"}, {"1", 2, "1.00"}, {"1.5", 1, "1.5"}, {"1.5", 3, "1.500"}, {"1.500", 2, "1.500"}, {"-0", 1, "-0.0"}, {"0.0", 3, "0.000"},
		{"1", api.MaxDigits - 1, "1." + forty[1:]}, {"1", api.MaxDigits, "1." + forty}, {"1", api.MaxDigits + 1, "1." + forty}, {"1.0", math.MaxInt, "1." + forty}, {"1.5", math.MinInt, "1.5"},
		{"-12.5", 2, "-12.50"},
	} {
		if got := parsed(t, x.s).Pad(x.least); got.String() != x.want || !got.Right() {
			t.Errorf("Pad of %s to %d is %+v, want %s", x.s, x.least, got, x.want)
		}
	}
	long := dec.Dec{Digits: strings.Repeat("7", 60), Scale: 50}
	if got := long.Pad(55); got != long {
		t.Errorf("Pad of a Scale above MaxDigits is %+v", got)
	}
}

func TestP2_2Group(t *testing.T) {
	for _, x := range []struct{ digits, between, want string }{
		{"", ",", ""}, {"1", ",", "1"}, {"12", ",", "12"}, {"123", ",", "123"}, {"1234", ",", "1,234"}, {"12345", ",", "12,345"}, {"123456", ",", "123,456"},
		{"1234567", " ", "1 234 567"}, {"0001234", ".", "0.001.234"}, {"1234567", "", "1234567"}, {"1234567", "\u00A0", "1\u00A0234\u00A0567"}, {"1000000", "--", "1--000--000"},
	} {
		if got := dec.Group(x.digits, x.between); got != x.want {
			t.Errorf("Group(%q, %q) = %q", x.digits, x.between, got)
		}
	}
	digits := strings.Repeat("1234567890", 10)
	for n := range len(digits) + 1 {
		got := dec.Group(digits[:n], "|")
		pieces := strings.Split(got, "|")
		for i, piece := range pieces {
			if first := i == 0 && n > 0; len(piece) > 3 || first && piece == "" || i > 0 && len(piece) != 3 {
				t.Fatalf("Group of %d digits is %q", n, got)
			}
		}
		if strings.Join(pieces, "") != digits[:n] {
			t.Fatalf("Group of %d digits is %q", n, got)
		}
	}
}

// Numbers that aren't Right may be told anything of, but no call panics.
func TestWrongNumbersEnd(t *testing.T) {
	for _, digits := range []string{"", "0", "00", "-1", "é", "\xff", "9", "999", "0950"} {
		for _, scale := range []int{math.MinInt, -1, 0, 1, 2, 3, 5, 1 << 40, math.MaxInt} {
			d := dec.Dec{Digits: digits, Scale: scale, Neg: scale%2 == 1}
			_, _, _, _ = d.String(), d.Whole(), d.Part(), d.Zero()
			for _, n := range []int{math.MinInt, -1, 0, 1, 2, 60, math.MaxInt} {
				d.Round(n)
				d.Trim(n)
				d.Pad(n)
			}
			d.Compare(dec.Int(1))
			dec.Int(-1).Compare(d)
			dec.Group(digits, digits)
		}
	}
}
