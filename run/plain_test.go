package run_test

import (
	"math/rand/v2"
	"slices"
	"strconv"
	"testing"

	"polyglot/api"
	"polyglot/chain"
	"polyglot/dec"
	"polyglot/run"
	"polyglot/script"
	"polyglot/value"
)

// plainOuts is what comes of steps by the chapter's words: each one anew, on a chain to which all ahead of it was done.
func plainOuts(list []script.Step) []run.Out {
	var outs []run.Out
	for i := range list {
		c := chain.New()
		var last run.Out
		for _, s := range list[:i+1] {
			last = plainDo(c, s)
		}
		outs = append(outs, last)
	}
	return outs
}

// plainDo is what comes of a step, by layer 17's own calls.
func plainDo(c *chain.Chain, s script.Step) run.Out {
	var out run.Out
	_, err := script.Encode([]script.Step{s}) // tells ErrArg just of what isn't Right
	switch {
	case err == api.ErrArg:
		out.Err = err
	case s.Kind == script.Add:
		out.Twice, out.Junk, out.Err = c.Add(s.Tag, []byte(s.Bytes), s.Over)
	case s.Kind == script.Choose:
		out.Err = c.Choose(s.Wishes, s.Tag)
	default:
		out.Answer, out.Has = c.Format(s.Name, s.Attr, plainArgs(s.Args))
	}
	return out
}

// plainArgs takes the last one of each name first, and passes over those of a name that is there.
func plainArgs(list []script.Arg) map[string]value.Value {
	args := map[string]value.Value{}
	for _, a := range slices.Backward(list) {
		if _, ok := args[a.Name]; ok {
			continue
		}
		switch a.Kind {
		case value.Text:
			args[a.Name] = value.Str(a.Text)
		case value.Number:
			d, _ := dec.Parse(a.Text)
			args[a.Name] = value.Num(d)
		case value.Moment:
			n, _ := strconv.ParseInt(a.Text, 10, 64)
			args[a.Name] = value.At(n)
		}
	}
	return args
}

func pick[T any](random *rand.Rand, list ...T) T { return list[random.IntN(len(list))] }

func someTag(random *rand.Rand) string {
	return pick(random, "en", "en", "de", "de", "de-AT", "DE-at", "fr", "de-1996", "", "?")
}

func someResource(random *rand.Rand) string {
	out := ""
	for range random.IntN(5) {
		out += pick(random, "a", "b", "c", "-a", "-b") + " = " + strconv.Itoa(random.IntN(100)) + " " +
			pick(random, "", "{ a }", "{ b.k }", "{ -a }", "{ $x }", "{ $n }", "{ -b }{ c }", "{ $n ->\n *[one] 1\n [other] { c }\n }", "{", "{ DATETIME($n) }") + "\n" +
			pick(random, "", "", " .k = k { $x }\n", "?\n", "# c\n", "\r\n", "\xff\n")
	}
	return out
}

func someArg(random *rand.Rand) script.Arg {
	return script.Arg{Name: pick(random, "x", "n", "n", "", "y"), Kind: value.Kind(random.IntN(3)), Text: pick(random, "0", "1", "1", "2", "-5", "1234567", pick(random, "", "one", "1.50", "-0", "9007199254740993"))}
}

// someStep is one that is mostly Right.
func someStep(random *rand.Rand) script.Step {
	var s script.Step
	switch random.IntN(5) {
	case 0, 1:
		s = script.Step{Kind: script.Add, Tag: someTag(random), Bytes: someResource(random), Over: random.IntN(2) == 0}
	case 2:
		s = script.Step{Kind: script.Choose, Tag: someTag(random)}
		for range random.IntN(3) {
			s.Wishes = append(s.Wishes, someTag(random))
		}
	default:
		s = script.Step{Kind: script.Ask, Name: pick(random, "a", "a", "b", "c", "z"), Attr: pick(random, "", "", "", "k")}
		for range random.IntN(4) {
			s.Args = append(s.Args, someArg(random))
		}
	}
	switch random.IntN(60) {
	case 0:
		s.Kind = script.Kind(random.IntN(5) - 1)
	case 1:
		s.Over = true
	case 2:
		s.Tag = "en"
	}
	return s
}

func TestP19_1AgainstThePlainForm(t *testing.T) {
	met := map[string]int{}
	for seed := range uint64(6_000) {
		random := rand.New(rand.NewPCG(seed, 19))
		var list []script.Step
		for range random.IntN(14) {
			list = append(list, someStep(random))
		}
		got, want := run.Steps(list), plainOuts(list)
		if !slices.EqualFunc(got, want, same) {
			t.Fatalf("seed %d: %+v come to %+v, want %+v", seed, list, got, want)
		}
		for i, o := range got {
			what := "error"
			if o.Err == api.OK {
				what = strconv.Itoa(int(list[i].Kind)) + " " + strconv.FormatBool(o.Has) + " " + strconv.FormatBool(len(o.Twice) > 0)
			}
			met[what]++
		}
	}
	for _, what := range []string{"error", "0 false false", "0 false true", "1 false false", "2 false false", "2 true false"} {
		if met[what] < 1_000 {
			t.Errorf("just %d times %s", met[what], what)
		}
	}
}

// changed is bytes with some of them taken away, put in or turned.
func changed(random *rand.Rand, s string) string {
	for range random.IntN(3) {
		from := random.IntN(len(s) + 1)
		to := min(len(s), from+random.IntN(3))
		s = s[:from] + pick(random, "", "", "0", "1", ":", ",", "a", "q", "t", "n", "m", "1:", "0:,", "\xff", "{", "}") + s[to:]
	}
	return s
}

// TestP1AnyBytes is of any bytes: each step up to the first bytes that are none comes to what it comes to by itself.
func TestP1AnyBytes(t *testing.T) {
	met := map[string]int{}
	for seed := range uint64(20_000) {
		random := rand.New(rand.NewPCG(seed, 1))
		var list []script.Step
		for range 1 + random.IntN(8) {
			list = append(list, someStep(random))
		}
		b, _ := script.Encode(list)
		s := changed(random, string(b))
		steps, at, err := script.Decode([]byte(s))
		checkBytes(t, s, at, err, plainOuts(steps)...)
		if t.Failed() {
			t.Fatalf("seed %d", seed)
		}
		met[strconv.Itoa(min(len(steps), 2))+" "+err.Word()]++
	}
	for _, what := range []string{"0 form", "1 form", "2 form", "2 ok"} {
		if met[what] < 500 {
			t.Errorf("just %d times %s", met[what], what)
		}
	}
}
