package tell_test

import (
	"fmt"
	"math/rand/v2"
	"slices"
	"strconv"
	"strings"
	"testing"

	"polyglot/api"
	"polyglot/chain"
	"polyglot/resolve"
	"polyglot/run"
	"polyglot/script"
	"polyglot/tell"
	"polyglot/text"
	"polyglot/value"
)

// plainLines is Lines by the chapter's words.
func plainLines(s script.Step, o run.Out) []string {
	if o.Err != api.OK {
		return []string{o.Err.Word()}
	}
	switch s.Kind {
	case script.Add:
		line := fmt.Sprint("ok ", o.Junk)
		for _, name := range o.Twice {
			line += " " + name
		}
		return []string{line}
	case script.Choose:
		return []string{"ok"}
	case script.Ask:
		tag := map[bool]string{true: o.Answer.Tag, false: "none"}[o.Has]
		lines := []string{tag + " " + text.Quote(o.Answer.Text)}
		words := []string{"var", "message", "term", "value", "func", "arg", "cyclic", "many", "long"}
		for _, e := range o.Answer.Errors {
			word := ""
			if e.Code >= 1 && int(e.Code) <= len(words) {
				word = words[e.Code-1]
			}
			lines = append(lines, fmt.Sprintf("! %s %s", word, e.Name))
		}
		return lines
	}
	return nil
}

// plainRun does all steps, whether their lines are told or not.
func plainRun(b []byte) []string {
	steps, at, err := script.Decode(b)
	var lines []string
	for i, o := range run.Steps(steps) {
		lines = slices.Concat(lines, plainLines(steps[i], o))
	}
	switch {
	case len(lines) >= 401:
		lines[400] = "many"
		lines = lines[:401]
	case err != api.OK:
		lines = append(lines, fmt.Sprintf("error %s at %d", err.Word(), at))
	}
	return lines
}

func pick[T any](random *rand.Rand, list ...T) T { return list[random.IntN(len(list))] }

func someText(random *rand.Rand) string {
	return pick(random, "", "a", "a b", "-t", "a.k", "\n", "\"", "\\", "\xff", "é\r", "\x00", "none", "$x")
}

func someTag(random *rand.Rand) string {
	return pick(random, "en", "en", "de", "de-AT", "DE-at", "", "?")
}

func someOut(random *rand.Rand) run.Out {
	o := run.Out{Junk: random.IntN(1_000) - 100, Has: random.IntN(2) == 0, Answer: chain.Answer{Text: someText(random), Tag: someText(random)}}
	if random.IntN(4) == 0 {
		o.Err = api.Errno(random.IntN(8) - 1)
	}
	for range random.IntN(3) {
		o.Twice = append(o.Twice, someText(random))
	}
	for range random.IntN(4) {
		o.Answer.Errors = append(o.Answer.Errors, resolve.Error{Code: resolve.Code(random.IntN(13) - 1), Name: someText(random)})
	}
	return o
}

func TestP20_1AgainstThePlainForm(t *testing.T) {
	random := rand.New(rand.NewPCG(20, 1))
	for range 100_000 {
		s := script.Step{Kind: script.Kind(random.IntN(5) - 1), Tag: someTag(random), Name: someText(random)}
		o := someOut(random)
		if got, want := tell.Lines(s, o), plainLines(s, o); !slices.Equal(got, want) {
			t.Fatalf("Lines of %+v, %+v = %q, want %q", s, o, got, want)
		}
	}
}

func someResource(random *rand.Rand) string {
	out := ""
	for range random.IntN(5) {
		out += pick(random, "a", "b", "c", "-a", "-b") + " = " + strconv.Itoa(random.IntN(100)) + " " +
			pick(random, "", "{ a }", "{ b.k }", "{ -a }", "{ $x }", "{ $n }", "{ -b }{ c }", "{ b }{ b }", "{ NO() }", "{ DATETIME($n) }", strings.Repeat("{ $x }", 40)) + "\n" +
			pick(random, "", "", " .k = k { $x }\n", "?\n", "# c\n", "\r\n", "\xff\n")
	}
	return out
}

// someStep is one that is mostly Right.
func someStep(random *rand.Rand) script.Step {
	switch random.IntN(8) {
	case 0:
		return script.Step{Kind: script.Add, Tag: someTag(random), Bytes: someResource(random), Over: random.IntN(2) == 0}
	case 1:
		return choose(someTag(random), slices.Repeat([]string{someTag(random)}, random.IntN(3))...)
	}
	s := ask(pick(random, "a", "a", "b", "c", "z"), pick(random, "", "", "", "k"))
	for range random.IntN(3) {
		s.Args = append(s.Args, script.Arg{Name: pick(random, "x", "n", "y"), Kind: value.Kind(random.IntN(3)), Text: pick(random, "0", "1", "-5", "1234567", "951782400")})
	}
	return s
}

// changed is bytes with some of them taken away, put in or turned.
func changed(random *rand.Rand, s string) string {
	for range random.IntN(3) {
		from := random.IntN(len(s) + 1)
		to := min(len(s), from+random.IntN(3))
		s = s[:from] + pick(random, "", "", "0", "1", ":", ",", "a", "q", "t", "n", "m", "1:", "0:,", "\xff", "{", "}") + s[to:]
	}
	return s
}

// TestP20_2AgainstThePlainForm is of any bytes, with some lines and with about as many as may be.
func TestP20_2AgainstThePlainForm(t *testing.T) {
	met := map[string]int{}
	for seed := range uint64(2_500) {
		random := rand.New(rand.NewPCG(seed, 20))
		var list []script.Step
		for range pick(random, 3, 20, 150, 300) * (1 + random.IntN(2)) {
			list = append(list, someStep(random))
		}
		b, err := script.Encode(list)
		if err != api.OK {
			t.Fatalf("seed %d: the steps can't be written: %d", seed, err)
		}
		b = []byte(changed(random, string(b)))
		got, want := tell.Run(b), plainRun(b)
		if !slices.Equal(got, want) {
			t.Fatalf("seed %d: Run of %q tells %d lines, %q, want %d, %q", seed, b, len(got), got, len(want), want)
		}
		if len(got) > 0 {
			first, _, _ := strings.Cut(got[len(got)-1], " ")
			met[first]++
		}
		met[strconv.Itoa(len(got)/100)+" hundreds"]++
	}
	for _, what := range []string{"many", "error", "0 hundreds", "1 hundreds", "2 hundreds", "3 hundreds", "4 hundreds"} {
		if met[what] < 50 {
			t.Errorf("just %d times %s", met[what], what)
		}
	}
}
