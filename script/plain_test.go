package script_test

import (
	"math/big"
	"math/rand/v2"
	"regexp"
	"slices"
	"strconv"
	"strings"
	"testing"

	"polyglot/api"
	"polyglot/dec"
	"polyglot/script"
	"polyglot/value"
)

// The words of P18.1 and P18.2 as expressions.
var (
	momentForm = regexp.MustCompile(`^(0|-?[1-9][0-9]*)$`)
	countForm  = regexp.MustCompile(`^(0|[1-9][0-9]*)$`)
	headForm   = regexp.MustCompile(`^(0|[1-9][0-9]*):`)
)

// plainValue is Value by the chapter's words.
func plainValue(a script.Arg) (value.Value, bool) {
	if a.Kind == value.Text {
		return value.Str(a.Text), true
	}
	if d, ok := dec.Parse(a.Text); ok && a.Kind == value.Number {
		return value.Num(d), true
	}
	if a.Kind == value.Moment && momentForm.MatchString(a.Text) {
		n, _ := new(big.Int).SetString(a.Text, 10)
		if n.CmpAbs(big.NewInt(1<<53)) <= 0 {
			return value.At(n.Int64()), true
		}
	}
	return value.Value{}, false
}

// plainRight is Right by the chapter's words: a step is what is left of it when all that its kind has not is taken away.
func plainRight(s script.Step) bool {
	kept := script.Step{Kind: s.Kind}
	switch s.Kind {
	case script.Add:
		kept.Tag, kept.Bytes, kept.Over = s.Tag, s.Bytes, s.Over
	case script.Choose:
		kept.Tag, kept.Wishes = s.Tag, s.Wishes
	case script.Ask:
		kept.Name, kept.Attr, kept.Args = s.Name, s.Attr, s.Args
	default:
		return false
	}
	return same(s, kept) && !slices.ContainsFunc(s.Args, func(a script.Arg) bool { _, ok := plainValue(a); return !ok })
}

// plainTexts is the texts that a step which is Right is made of.
func plainTexts(s script.Step) []string {
	switch s.Kind {
	case script.Add:
		return []string{"a", s.Tag, map[bool]string{true: "1", false: "0"}[s.Over], s.Bytes}
	case script.Choose:
		return slices.Concat([]string{"c", s.Tag, strconv.Itoa(len(s.Wishes))}, s.Wishes)
	}
	list := []string{"q", s.Name, s.Attr, strconv.Itoa(len(s.Args))}
	for _, a := range s.Args {
		list = append(list, a.Name, map[value.Kind]string{value.Text: "t", value.Number: "n", value.Moment: "m"}[a.Kind], a.Text)
	}
	return list
}

func plainBytes(texts []string) string {
	var out strings.Builder
	for _, s := range texts {
		out.WriteString(strconv.Itoa(len(s)) + ":" + s + ",")
	}
	return out.String()
}

func plainEncode(list []script.Step) (string, api.Errno) {
	if len(list) > 4096 {
		return "", api.ErrMany
	}
	out := ""
	for _, s := range list {
		if !plainRight(s) {
			return "", api.ErrArg
		}
		out += plainBytes(plainTexts(s))
	}
	return out, api.OK
}

// cut is all texts that stand in bytes from the beginning on, one behind the other.
func cut(s string) []string {
	var texts []string
	for {
		head := headForm.FindString(s)
		n, err := strconv.Atoi(strings.TrimSuffix(head, ":"))
		s = s[len(head):]
		if head == "" || err != nil || n > 1<<18 || n >= len(s) || s[n] != ',' {
			return texts
		}
		texts = append(texts, s[:n])
		s = s[n+1:]
	}
}

// plainStep is the step that texts begin with: there is just one whose own texts these are.
func plainStep(texts []string) (script.Step, bool) {
	count := func(at, each int) int {
		if len(texts) <= at || !countForm.MatchString(texts[at]) {
			return -1
		}
		n, err := strconv.Atoi(texts[at])
		if err != nil || n > 1<<18 || at+1+n*each > len(texts) {
			return -1
		}
		return n
	}
	var s script.Step
	switch {
	case len(texts) > 3 && texts[0] == "a":
		s = script.Step{Kind: script.Add, Tag: texts[1], Over: texts[2] == "1", Bytes: texts[3]}
	case count(2, 1) >= 0 && texts[0] == "c":
		s = script.Step{Kind: script.Choose, Tag: texts[1], Wishes: texts[3 : 3+count(2, 1)]}
	case count(3, 3) >= 0 && texts[0] == "q":
		s = script.Step{Kind: script.Ask, Name: texts[1], Attr: texts[2]}
		for a := range slices.Chunk(texts[4:4+3*count(3, 3)], 3) {
			kind, ok := map[string]value.Kind{"t": value.Text, "n": value.Number, "m": value.Moment}[a[1]]
			if !ok {
				return s, false
			}
			s.Args = append(s.Args, script.Arg{Name: a[0], Kind: kind, Text: a[2]})
		}
	default:
		return s, false
	}
	own := plainTexts(s)
	return s, plainRight(s) && slices.Equal(own, texts[:len(own)])
}

func plainDecode(s string) ([]script.Step, int, api.Errno) {
	if len(s) > 1<<18 {
		return nil, 0, api.ErrMany
	}
	var list []script.Step
	at := 0
	for texts := cut(s); at < len(s); {
		step, ok := plainStep(texts)
		if !ok {
			return list, at, api.ErrForm
		}
		if len(list) == 4096 {
			return list, at, api.ErrMany
		}
		list = append(list, step)
		own := plainTexts(step)
		at += len(plainBytes(own))
		texts = texts[len(own):]
	}
	return list, at, api.OK
}

func pick[T any](random *rand.Rand, list ...T) T { return list[random.IntN(len(list))] }

func someText(random *rand.Rand) string {
	switch random.IntN(3) {
	case 0:
		b := make([]byte, random.IntN(13))
		for i := range b {
			b[i] = pick(random, []byte("0123:,acqtnm\xff\xc3\xa9 ")...)
		}
		return string(b)
	case 1:
		return pick(random, "0", "1", "-0", "-1", "01", "1.50", "1.", ".5", "9007199254740992", "-9007199254740992", "9007199254740993", "-9007199254740993", "1234567890123456789012345678901234567890", "12345678901234567890123456789012345678901")
	}
	return pick(random, "", "en", "de-AT", "a", "x", "a = 1\n")
}

func someArg(random *rand.Rand) script.Arg {
	a := script.Arg{Name: someText(random), Kind: value.Kind(random.IntN(3)), Text: someText(random)}
	if random.IntN(20) == 0 {
		a.Kind = pick(random, value.Kind(-1), 3, 1<<40)
	}
	return a
}

// someStep is mostly one that is Right, but for the Values of its Args.
func someStep(random *rand.Rand) script.Step {
	s := script.Step{Kind: script.Kind(random.IntN(3))}
	is := func(kind script.Kind) bool { return s.Kind == kind || random.IntN(40) == 0 }
	if is(script.Add) {
		s.Bytes, s.Over = someText(random), random.IntN(2) == 0
	}
	if !is(script.Ask) {
		s.Tag = someText(random)
	}
	if is(script.Choose) {
		for range random.IntN(12) {
			s.Wishes = append(s.Wishes, someText(random))
		}
	}
	if is(script.Ask) {
		s.Name, s.Attr = someText(random), someText(random)
		for range random.IntN(4) {
			s.Args = append(s.Args, someArg(random))
		}
	}
	if random.IntN(40) == 0 {
		s.Kind = pick(random, script.Kind(-1), 3, 1<<40, 0, 1, 2)
	}
	return s
}

func TestP18_1AgainstThePlainForm(t *testing.T) {
	random := rand.New(rand.NewPCG(18, 1))
	met := map[string]int{}
	for range 200_000 {
		a := someArg(random)
		got, ok := a.Value()
		want, wantOK := plainValue(a)
		if got != want || ok != wantOK {
			t.Fatalf("Value of %+v = %+v, %v, want %+v, %v", a, got, ok, want, wantOK)
		}
		s := someStep(random)
		if s.Right() != plainRight(s) {
			t.Fatalf("Right of %s is %v", steps([]script.Step{s}), s.Right())
		}
		met["value "+strconv.FormatBool(ok)]++
		met["right "+strconv.FormatBool(s.Right())]++
	}
	for _, what := range []string{"value true", "value false", "right true", "right false"} {
		if met[what] < 20_000 {
			t.Errorf("just %d times %s", met[what], what)
		}
	}
}

func TestP18_2P18_3AgainstThePlainForm(t *testing.T) {
	random := rand.New(rand.NewPCG(18, 2))
	met := map[api.Errno]int{}
	for range 50_000 {
		var list []script.Step
		for range random.IntN(6) {
			list = append(list, someStep(random))
		}
		got, err := script.Encode(list)
		want, wantErr := plainEncode(list)
		if string(got) != want || err != wantErr {
			t.Fatalf("Encode of %s = %q, %d, want %q, %d", steps(list), got, err, want, wantErr)
		}
		met[err]++
		if err == api.OK {
			checkDecode(t, want, len(want), api.OK, list...)
		}
	}
	if met[api.OK] < 5_000 || met[api.ErrArg] < 5_000 {
		t.Errorf("met %v", met)
	}
}

// changed is bytes with some of them taken away, put in or turned.
func changed(random *rand.Rand, s string) string {
	for range random.IntN(4) {
		from := random.IntN(len(s) + 1)
		to := min(len(s), from+random.IntN(3))
		s = s[:from] + pick(random, "", "", "0", "1", "2", ":", ",", "a", "c", "q", "t", "n", "m", "1:", "0:,", "\xff") + s[to:]
	}
	return s
}

// checkAny holds Decode of any bytes against the plain form, and its steps against the bytes that they were.
func checkAny(t *testing.T, s string) (int, api.Errno) {
	t.Helper()
	list, at, err := plainDecode(s)
	checkDecode(t, s, at, err, list...)
	if b, e := script.Encode(list); string(b) != s[:at] || e != api.OK {
		t.Errorf("Encode of the steps of %q = %q, %d", s, b, e)
	}
	return len(list), err
}

func TestP1P18_3ChangedBytes(t *testing.T) {
	random := rand.New(rand.NewPCG(18, 3))
	met := map[string]int{}
	for range 100_000 {
		if t.Failed() {
			return
		}
		s := ""
		for range 1 + random.IntN(4) {
			step := someStep(random)
			if step.Kind >= script.Add && step.Kind <= script.Ask { // such as aren't Right, too
				s += plainBytes(plainTexts(step))
			}
		}
		n, err := checkAny(t, changed(random, s))
		met[strconv.Itoa(min(n, 2))+" "+err.Word()]++
	}
	for _, what := range []string{"0 form", "1 form", "2 form", "1 ok", "2 ok"} {
		if met[what] < 2_000 {
			t.Errorf("just %d times %s", met[what], what)
		}
	}
}

// TestP1P18_3AllShort is of all short bytes of the signs that count, by themselves and behind what a step begins with.
func TestP1P18_3AllShort(t *testing.T) {
	signs := "01:,aqt"
	var all func(s string, more int)
	heads := []string{"", "1:c,0:,", "1:c,0:,1:1,", "1:q,0:,0:,1:", "1:q,0:,0:,1:1,0:,", "1:q,0:,0:,1:1,0:,1:n,", "1:a,0:,1:"}
	all = func(s string, more int) {
		for _, head := range heads {
			checkAny(t, head+s)
		}
		for i := range signs {
			if more > 0 && !t.Failed() {
				all(s+signs[i:i+1], more-1)
			}
		}
	}
	all("", 5)
}
