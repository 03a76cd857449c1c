package script_test

import (
	"math"
	"slices"
	"strconv"
	"strings"
	"testing"

	"polyglot/api"
	"polyglot/dec"
	"polyglot/script"
	"polyglot/value"
)

// same tells whether two steps are the same; lists that are nil and empty are one.
func same(a, b script.Step) bool {
	return a.Kind == b.Kind && a.Tag == b.Tag && a.Bytes == b.Bytes && a.Over == b.Over && a.Name == b.Name && a.Attr == b.Attr &&
		slices.Equal(a.Wishes, b.Wishes) && slices.Equal(a.Args, b.Args)
}

func add(tag, resource string, over bool) script.Step {
	return script.Step{Kind: script.Add, Tag: tag, Bytes: resource, Over: over}
}

func choose(tag string, wishes ...string) script.Step {
	return script.Step{Kind: script.Choose, Tag: tag, Wishes: wishes}
}

func ask(name, attr string, args ...script.Arg) script.Step {
	return script.Step{Kind: script.Ask, Name: name, Attr: attr, Args: args}
}

func str(name, s string) script.Arg    { return script.Arg{Name: name, Kind: value.Text, Text: s} }
func num(name, s string) script.Arg    { return script.Arg{Name: name, Kind: value.Number, Text: s} }
func moment(name, s string) script.Arg { return script.Arg{Name: name, Kind: value.Moment, Text: s} }

// anyTexts is texts of which most tell neither a number nor a moment.
func anyTexts() []string {
	return []string{
		"", " ", "a", "\x00", "\n", "\r", "\xff", "é", "٣", "1", "-", "+", ".", "-.", "--1", "+1", "1-", " 1", "1 ", "1\n", "1\x00", "- 1",
		"1e3", "1_000", "0x10", "0b1", "1,000", "1:", ":1", "１", "Inf", "NaN", ".5", "5.", "1.2.3",
	}
}

// noMoments is texts that tell no moment, but may tell a number.
func noMoments() []string {
	return []string{
		"-0", "00", "-00", "01", "-01", "007", "1.0", "0.0", "-1.5",
		"9007199254740993", "-9007199254740993", "9007199254741992", "10007199254740992", "90071992547409920", "9223372036854775807", "-9223372036854775808",
		"9223372036854775808", "18446744073709551616", "18446744073709551617", "-18446744073709551616", strings.Repeat("9", 40), "1" + strings.Repeat("0", 32),
	}
}

func checkValue(t *testing.T, a script.Arg, want value.Value, wantOK bool) {
	t.Helper()
	got, ok := a.Value()
	if got != want || ok != wantOK {
		t.Errorf("Value of %+v = %+v, %v, want %+v, %v", a, got, ok, want, wantOK)
	}
	if (script.Step{Kind: script.Ask, Args: []script.Arg{str("x", ""), a}}).Right() != wantOK {
		t.Errorf("Right of an Ask with %+v is %v", a, !wantOK)
	}
}

func TestP18_1ValueOfText(t *testing.T) {
	for _, s := range append(append(anyTexts(), noMoments()...), strings.Repeat("x", 5000)) {
		for _, name := range []string{"", "x", "?", "\xff"} {
			checkValue(t, str(name, s), value.Value{Kind: value.Text, Text: s}, true)
		}
	}
}

func TestP18_1ValueOfNumber(t *testing.T) {
	nines := strings.Repeat("9", api.MaxDigits)
	for s, want := range map[string]dec.Dec{
		"0":                           {Digits: "0"},
		"-0":                          {Neg: true, Digits: "0"},
		"007":                         {Digits: "7"},
		"1234.50":                     {Digits: "123450", Scale: 2},
		"-0.05":                       {Neg: true, Digits: "005", Scale: 2},
		nines:                         {Digits: nines},
		"-" + nines:                   {Neg: true, Digits: nines},
		nines[:20] + "." + nines[:20]: {Digits: nines, Scale: 20},
	} {
		checkValue(t, num("x", s), value.Num(want), true)
		checkValue(t, num("", s), value.Num(want), true)
	}
	if v, _ := num("x", "1.50").Value(); v.Opts.MinFrac != 0 || v.Opts.MaxFrac != 3 || v.Num.Scale != 2 {
		t.Errorf("the digits behind the point make options of a number: %+v", v)
	}
	for _, s := range append(anyTexts(), nines+"9", "-"+nines+"9", nines+".9", "0"+nines) {
		if s != "1" {
			checkValue(t, num("x", s), value.Value{}, false)
		}
	}
}

func TestP18_1ValueOfMoment(t *testing.T) {
	for s, want := range map[string]int64{
		"0": 0, "1": 1, "-1": -1, "10": 10, "-10": -10, "951782400": 951_782_400, "-62135596800": -62_135_596_800,
		"9007199254740991": 9_007_199_254_740_991, "9007199254740992": 9_007_199_254_740_992,
		"-9007199254740991": -9_007_199_254_740_991, "-9007199254740992": -9_007_199_254_740_992,
	} {
		checkValue(t, moment("x", s), value.At(want), true)
		checkValue(t, moment("", s), value.Value{Kind: value.Moment, Sec: want}, true)
	}
	for _, s := range append(anyTexts(), noMoments()...) {
		if s != "1" {
			checkValue(t, moment("x", s), value.Value{}, false)
		}
	}
}

func TestP18_1ValueOfNoKind(t *testing.T) {
	for _, kind := range []value.Kind{-1, 3, 4, 256, math.MaxInt, math.MinInt} {
		for _, s := range []string{"", "a", "0", "1"} {
			checkValue(t, script.Arg{Name: "x", Kind: kind, Text: s}, value.Value{}, false)
		}
	}
}

func checkRight(t *testing.T, s script.Step, want bool) {
	t.Helper()
	if s.Right() != want {
		t.Errorf("Right of %+v is %v", s, !want)
	}
}

func TestP18_1Right(t *testing.T) {
	for _, s := range []script.Step{
		{}, add("en", "", false), add("", "a = 1", false), add("", "", true), add("en", "a = 1", true), add("?", "\xff\x00", false),
		{Kind: script.Choose}, choose("en"), choose("", "de"), choose("", ""), choose("en", "de", "", "?", "\xff", "de"),
		{Kind: script.Ask}, ask("a", ""), ask("", "k"), ask("a", "k"), ask("?", "\xff"), ask("", "", str("", "")),
		ask("a", "k", str("x", "?"), num("x", "-0.50"), moment("x", "-5"), str("y", "")),
		{Kind: script.Add, Wishes: []string{}, Args: []script.Arg{}}, {Kind: script.Choose, Wishes: []string{}, Args: []script.Arg{}}, {Kind: script.Ask, Wishes: []string{}, Args: []script.Arg{}},
	} {
		checkRight(t, s, true)
		for _, kind := range []script.Kind{-1, 3, 4, 256, math.MaxInt, math.MinInt} {
			s.Kind = kind
			checkRight(t, s, false)
		}
	}
}

// TestP18_1RightAlone is of steps that have one thing: it may be just some kinds'.
func TestP18_1RightAlone(t *testing.T) {
	for _, x := range []struct {
		s    script.Step
		kind []script.Kind
	}{
		{script.Step{Tag: "en"}, []script.Kind{script.Add, script.Choose}},
		{script.Step{Bytes: "a"}, []script.Kind{script.Add}},
		{script.Step{Over: true}, []script.Kind{script.Add}},
		{script.Step{Wishes: []string{"en"}}, []script.Kind{script.Choose}},
		{script.Step{Wishes: []string{""}}, []script.Kind{script.Choose}},
		{script.Step{Name: "a"}, []script.Kind{script.Ask}},
		{script.Step{Attr: "k"}, []script.Kind{script.Ask}},
		{script.Step{Args: []script.Arg{{}}}, []script.Kind{script.Ask}},
	} {
		for _, kind := range []script.Kind{script.Add, script.Choose, script.Ask} {
			s := x.s
			s.Kind = kind
			checkRight(t, s, slices.Contains(x.kind, kind))
		}
	}
}

func TestP18_1RightArgs(t *testing.T) {
	wrong := []script.Arg{num("x", ""), num("x", "z"), moment("x", "-0"), moment("x", "1.0"), {Name: "x", Kind: 3}, {Name: "x", Kind: -1, Text: "1"}}
	for _, a := range wrong {
		for place := range 4 {
			args := slices.Insert([]script.Arg{str("x", "z"), num("x", "1"), moment("x", "1")}, place, a)
			checkRight(t, ask("a", "", args...), false)
		}
	}
}

func checkEncode(t *testing.T, want string, list ...script.Step) {
	t.Helper()
	for range 2 {
		if got, err := script.Encode(list); string(got) != want || err != api.OK {
			t.Errorf("Encode of %+v = %q, %d, want %q", list, got, err, want)
		}
	}
	checkDecode(t, want, len(want), api.OK, list...)
}

func checkDecode(t *testing.T, s string, at int, err api.Errno, want ...script.Step) {
	t.Helper()
	for range 2 {
		got, gotAt, gotErr := script.Decode([]byte(s))
		if !slices.EqualFunc(got, want, same) || gotAt != at || gotErr != err {
			t.Errorf("Decode of %.200q = %.200q, %d, %d, want %.200q, %d, %d", s, steps(got), gotAt, gotErr, steps(want), at, err)
		}
	}
}

// steps is steps as a text that tells them apart.
func steps(list []script.Step) string {
	var out strings.Builder
	for _, s := range list {
		out.WriteString("<" + strconv.Itoa(int(s.Kind)) + " " + strconv.Quote(s.Tag) + strconv.Quote(s.Bytes) + strconv.FormatBool(s.Over))
		for _, w := range s.Wishes {
			out.WriteString(" " + strconv.Quote(w))
		}
		out.WriteString(" " + strconv.Quote(s.Name) + strconv.Quote(s.Attr))
		for _, a := range s.Args {
			out.WriteString(" " + strconv.Quote(a.Name) + strconv.Itoa(int(a.Kind)) + strconv.Quote(a.Text))
		}
		out.WriteString(">")
	}
	return out.String()
}

func TestP18_2P18_3Steps(t *testing.T) {
	checkEncode(t, "")
	checkEncode(t, "1:c,2:en,1:0,", choose("en"))
	checkEncode(t, "1:c,0:,1:0,", choose(""))
	checkEncode(t, "1:c,2:en,1:3,2:de,0:,1:?,", choose("en", "de", "", "?"))
	checkEncode(t, "1:a,0:,1:0,0:,", add("", "", false))
	checkEncode(t, "1:a,0:,1:1,0:,", add("", "", true))
	checkEncode(t, "1:a,2:en,1:1,10:a = { $x },", add("en", "a = { $x }", true))
	checkEncode(t, "1:a,5:de-AT,1:0,5:a = 1,", add("de-AT", "a = 1", false))
	checkEncode(t, "1:q,0:,0:,1:0,", ask("", ""))
	checkEncode(t, "1:q,1:a,1:k,1:0,", ask("a", "k"))
	checkEncode(t, "1:q,1:a,0:,1:1,1:x,1:t,1:1,", ask("a", "", str("x", "1")))
	checkEncode(t, "1:q,0:,1:k,1:3,1:x,1:n,7:1234.50,0:,1:m,2:-5,1:x,1:t,0:,", ask("", "k", num("x", "1234.50"), moment("", "-5"), str("x", "")))
	checkEncode(t, "1:q,1:a,0:,1:0,1:c,2:en,1:0,1:a,0:,1:0,0:,1:c,2:de,1:1,2:en,1:q,0:,0:,1:0,",
		ask("a", ""), choose("en"), add("", "", false), choose("de", "en"), ask("", ""))
}

// TestP18_2P18_3Bytes is of texts that have any bytes, also such as stand between texts: they are counted in bytes and stay as they are.
func TestP18_2P18_3Bytes(t *testing.T) {
	checkEncode(t, "1:a,2:é,1:0,3:€,", add("é", "€", false))
	checkEncode(t, "1:a,1:\xff,1:0,4:\r\n\x00\xc3,", add("\xff", "\r\n\x00\xc3", false))
	checkEncode(t, "1:a,2:1:,1:0,4:1:a,,", add("1:", "1:a,", false))
	checkEncode(t, "1:c,1:,,1:2,1::,5:,1:0,,", choose(",", ":", ",1:0,"))
	checkEncode(t, "1:q,4:1:q,,3:0:,,1:1,2:,,,1:t,6:1:t,0:,", ask("1:q,", "0:,", str(",,", "1:t,0:")))
	checkEncode(t, "1:a,0:,1:0,9:123456789,1:a,0:,1:0,10:1234567890,", add("", "123456789", false), add("", "1234567890", false))
	for _, n := range []int{99, 100, 999, 1_000, 9_999, 10_000, 99_999, 100_000} {
		long := strings.Repeat("é", n/2) + strings.Repeat("x", n%2)
		checkEncode(t, "1:a,0:,1:1,"+strconv.Itoa(n)+":"+long+",", add("", long, true))
	}
}

func TestP18_2P18_3Counts(t *testing.T) {
	for _, n := range []int{9, 10, 11, 99, 100, 1_000, 9_999, 10_000} {
		digits := strconv.Itoa(n)
		count := strconv.Itoa(len(digits)) + ":" + digits + ","
		checkEncode(t, "1:c,0:,"+count+strings.Repeat("0:,", n)+"1:c,0:,1:0,", choose("", make([]string, n)...), choose(""))
		checkEncode(t, "1:q,0:,0:,"+count+strings.Repeat("0:,1:t,0:,", n)+"1:q,0:,0:,1:0,", ask("", "", make([]script.Arg, n)...), ask("", ""))
	}
}

func checkNoEncode(t *testing.T, err api.Errno, list ...script.Step) {
	t.Helper()
	if got, gotErr := script.Encode(list); len(got) != 0 || gotErr != err {
		t.Errorf("Encode of %d steps = %.200q, %d, want %d", len(list), got, gotErr, err)
	}
}

func TestP18_2EncodeOfNoSteps(t *testing.T) {
	wrong := []script.Step{
		{Kind: 3}, {Kind: -1}, {Kind: math.MaxInt}, {Kind: math.MinInt}, {Name: "a"}, {Wishes: []string{""}}, {Kind: script.Choose, Over: true}, {Kind: script.Ask, Tag: "en"},
		ask("a", "", num("x", "z")), ask("a", "", moment("x", "-0")), ask("a", "", script.Arg{Kind: 3}), ask("a", "", script.Arg{Kind: -1}),
	}
	for _, s := range wrong {
		checkNoEncode(t, api.ErrArg, s)
		checkNoEncode(t, api.ErrArg, s, choose("en"))
		checkNoEncode(t, api.ErrArg, choose("en"), s)
		checkNoEncode(t, api.ErrArg, choose("en"), s, ask("a", ""))
	}
}

func TestP18_2EncodeMany(t *testing.T) {
	list := slices.Repeat([]script.Step{choose("")}, api.MaxSteps)
	checkEncode(t, strings.Repeat("1:c,0:,1:0,", api.MaxSteps), list...)
	checkNoEncode(t, api.ErrMany, append(list, choose(""))...)
	checkNoEncode(t, api.ErrMany, append(list, list...)...)
	list[5].Kind = 3
	checkNoEncode(t, api.ErrArg, list...)
	checkNoEncode(t, api.ErrMany, append(list, choose(""))...) // ErrMany is named first
	checkNoEncode(t, api.ErrMany, append(list, script.Step{Kind: 3})...)
}

// TestP18_2EncodeLong is of steps whose bytes are more than Decode takes: they are steps that are Right all the same.
func TestP18_2EncodeLong(t *testing.T) {
	for _, n := range []int{200_000, api.MaxBytes, api.MaxBytes + 1, 1_000_000} {
		long := strings.Repeat("x", n)
		one := "1:a,0:,1:0," + strconv.Itoa(n) + ":" + long + ","
		got, err := script.Encode([]script.Step{add("", long, false), add("", long, false)})
		if string(got) != one+one || err != api.OK {
			t.Errorf("Encode of %d bytes tells %d bytes and %d", n, len(got), err)
		}
		checkDecode(t, one+one, 0, api.ErrMany)
	}
}
