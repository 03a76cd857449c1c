package tell_test

import (
	"slices"
	"strconv"
	"strings"
	"testing"

	"polyglot/api"
	"polyglot/chain"
	"polyglot/resolve"
	"polyglot/run"
	"polyglot/script"
	"polyglot/tell"
	"polyglot/value"
)

func TestP20_1Word(t *testing.T) {
	words := map[resolve.Code]string{
		resolve.NoVar: "var", resolve.NoMessage: "message", resolve.NoTerm: "term", resolve.NoValue: "value", resolve.NoFunc: "func",
		resolve.BadArg: "arg", resolve.Cyclic: "cyclic", resolve.TooMany: "many", resolve.TooLong: "long",
	}
	if len(words) != 9 {
		t.Errorf("there are %d codes", len(words))
	}
	for _, c := range []resolve.Code{-1 << 63, -10, -2, -1, 0, 10, 11, 12, 256, 257, 1 << 32, 1<<32 + 1, 1<<63 - 1} {
		words[c] = ""
	}
	for c, want := range words {
		if got := tell.Word(c); got != want {
			t.Errorf("Word(%d) = %q, want %q", c, got, want)
		}
	}
	for i, want := range []string{"", "var", "message", "term", "value", "func", "arg", "cyclic", "many", "long", ""} {
		if got := tell.Word(resolve.Code(i)); got != want {
			t.Errorf("Word(%d) = %q, want %q", i, got, want)
		}
	}
}

func add(tag, resource string) script.Step {
	return script.Step{Kind: script.Add, Tag: tag, Bytes: resource}
}

func over(tag, resource string) script.Step {
	return script.Step{Kind: script.Add, Tag: tag, Bytes: resource, Over: true}
}

func choose(tag string, wishes ...string) script.Step {
	return script.Step{Kind: script.Choose, Tag: tag, Wishes: wishes}
}

func ask(name, attr string, args ...script.Arg) script.Step {
	return script.Step{Kind: script.Ask, Name: name, Attr: attr, Args: args}
}

func str(name, s string) script.Arg { return script.Arg{Name: name, Kind: value.Text, Text: s} }

// checkLines is of an Out that is handed in, whatever made it.
func checkLines(t *testing.T, s script.Step, o run.Out, want ...string) {
	t.Helper()
	for range 2 { // the second time as the first one: nothing was turned
		if got := tell.Lines(s, o); !slices.Equal(got, want) {
			t.Errorf("Lines of %.300v, %.300v = %d, %.300q, want %d, %.300q", s, o, len(got), got, len(want), want)
		}
	}
}

// told is a step, and its lines.
type told struct {
	step  script.Step
	lines []string
}

func tells(s script.Step, lines ...string) told { return told{s, lines} }

// check does steps from nothing on: one by one, and as bytes, if they can be written.
func check(t *testing.T, list ...told) {
	t.Helper()
	var steps []script.Step
	var want []string
	c := chain.New()
	for _, x := range list {
		steps, want = append(steps, x.step), append(want, x.lines...)
		checkLines(t, x.step, run.Do(c, x.step), x.lines...)
	}
	if b, err := script.Encode(steps); err == api.OK {
		checkRun(t, string(b), want...)
	}
}

func checkRun(t *testing.T, s string, want ...string) {
	t.Helper()
	for range 2 {
		if got := tell.Run([]byte(s)); !slices.Equal(got, want) {
			t.Errorf("Run of %.300q tells %d lines, %.300q, want %d, %.300q", s, len(got), got, len(want), want)
		}
	}
}

func TestP20_1Add(t *testing.T) {
	check(t,
		tells(add("en", ""), "ok 0"),
		tells(add("en", "a = 1\n-b = 2\n"), "ok 0"),
		tells(add("en", "a = 1\n-b = 2\n"), "ok 0 a -b"),
		tells(add("en", "-b = 1\n?\na = 2\n}\na = 3\nc = 4"), "ok 2 -b a a"),
		tells(over("en", "c = 5\n?"), "ok 1 c"),
		tells(add("de", strings.Repeat("?\na = 1\n", 12)), "ok 12"+strings.Repeat(" a", 11)),
		tells(add("", "a = 1\na = 2\n?"), "arg"),
		tells(over("?", "a = 1\na = 2\n?"), "arg"),
	)
	for junk, want := range map[int]string{0: "ok 0", 7: "ok 7", 10: "ok 10", 2000: "ok 2000", -3: "ok -3", 1<<63 - 1: "ok 9223372036854775807"} {
		checkLines(t, add("en", ""), run.Out{Junk: junk}, want)
		checkLines(t, add("en", ""), run.Out{Junk: junk, Twice: []string{"a", "-b", "a"}}, want+" a -b a")
		checkLines(t, add("en", ""), run.Out{Junk: junk, Twice: []string{"", "a\nb c", "\xff"}}, want+"  a\nb c \xff")
	}
}

func TestP20_1Choose(t *testing.T) {
	check(t,
		tells(choose("en"), "ok"),
		tells(choose("de", "fr", "?", ""), "ok"),
		tells(choose("?", "fr"), "arg"),
		tells(choose(""), "arg"),
	)
}

func TestP20_1Ask(t *testing.T) {
	check(t,
		tells(ask("a", ""), `none "a"`, "! message a"),
		tells(ask("a", "k"), `none "a.k"`, "! message a.k"),
		tells(ask("", ""), `none ""`, "! message "),
		tells(ask("\"\\\n", "\x7f "), `none "\"\\\u000A.\u007F "`, "! message \"\\\n.\x7f "),
		tells(add("de-at", "a = Grüße, { $x }!\n .k = \n  eins\n  zwei\n"), "ok 0"),
		tells(ask("a", ""), `de-AT "Grüße, {$x}!"`, "! var $x"),
		tells(ask("a", "", str("x", "")), `de-AT "Grüße, !"`),
		tells(ask("a", "", str("x", "\"q\"\t\\")), `de-AT "Grüße, \"q\"\u0009\\!"`),
		tells(ask("a", "k"), `de-AT "eins\u000Azwei"`),
		tells(ask("a", "l"), `none "a.l"`, "! message a.l"),
		tells(add("en", "b = { \"\" }\nc = { $x }{ $y }{ $x }{ \"\\u0000\" }"), "ok 0"),
		tells(ask("b", ""), `en ""`),
		tells(ask("c", "", str("y", "Y")), `en "{$x}Y{$x}\u0000"`, "! var $x", "! var $x"),
	)
}

// TestP20_1AskWrong is of all that goes wrong in messages.
func TestP20_1AskWrong(t *testing.T) {
	check(t,
		tells(add("en", "v = { $v }\nm = { no }{ v.no }\nt = { -no }\nn = { o }\no =\n .k = 1\nf = { NO() }\na = { NUMBER(\"x\") }\nc = { d }\nd = { c }\nl = { $l }\np = "+strings.Repeat("{ 1 }", 101)), "ok 0"),
		tells(ask("v", ""), `en "{$v}"`, "! var $v"),
		tells(ask("m", ""), `en "{no}{v.no}"`, "! message no", "! value v.no"),
		tells(ask("t", ""), `en "{-no}"`, "! term -no"),
		tells(ask("n", ""), `en "{o}"`, "! value o"),
		tells(ask("f", ""), `en "{NO()}"`, "! func NO()"),
		tells(ask("a", ""), `en "{NUMBER()}"`, "! arg NUMBER()"),
		tells(ask("c", ""), `en "{c}"`, "! cyclic c"),
		tells(ask("l", "", str("l", strings.Repeat("x", api.MaxLength+1))), `en "{?}"`, "! long ?"),
		tells(ask("p", ""), `en "`+strings.Repeat("1", 100)+`{?}"`, "! many ?"),
	)
}

// TestP20_1Errors is of Errs, ahead of all else.
func TestP20_1Errors(t *testing.T) {
	words := map[api.Errno]string{api.ErrArg: "arg", api.ErrForm: "form", api.ErrNone: "none", api.ErrMany: "many", -1: "", 5: "", 1 << 40: ""}
	all := run.Out{Twice: []string{"a"}, Junk: 1, Has: true, Answer: chain.Answer{Text: "b", Tag: "en", Errors: []resolve.Error{{Code: resolve.NoVar, Name: "$x"}}}}
	for err, want := range words {
		for _, s := range []script.Step{add("en", "a = 1"), choose("en"), ask("a", ""), {Kind: -1}, {Kind: 3}} {
			checkLines(t, s, run.Out{Err: err}, want)
			o := all
			o.Err = err
			checkLines(t, s, o, want)
		}
	}
	checkLines(t, add("en", ""), all, "ok 1 a")
	checkLines(t, choose("en"), all, "ok")
	checkLines(t, ask("a", ""), all, `en "b"`, "! var $x")
	notRight := []script.Step{{Kind: 3}, {Kind: -1}, {Tag: "en", Name: "a"}, {Kind: script.Choose, Tag: "en", Over: true}, {Kind: script.Ask, Name: "a", Tag: "en"}, ask("a", "", script.Arg{Name: "x", Kind: value.Number, Text: "x"})}
	for _, s := range notRight {
		check(t, tells(s, "arg"))
	}
}

// TestP20_1AnyOut is of Outs that no step comes to.
func TestP20_1AnyOut(t *testing.T) {
	for _, kind := range []script.Kind{-1 << 63, -1, 3, 4, 1 << 40} {
		checkLines(t, script.Step{Kind: kind, Tag: "en"}, run.Out{Junk: 1, Has: true})
	}
	checkLines(t, script.Step{}, run.Out{}, "ok 0")
	asked := func(has bool, tag, text string, errors ...resolve.Error) run.Out {
		return run.Out{Has: has, Answer: chain.Answer{Tag: tag, Text: text, Errors: errors}}
	}
	s := ask("a", "")
	checkLines(t, s, run.Out{}, `none ""`)
	checkLines(t, s, asked(false, "en", "a"), `none "a"`)
	checkLines(t, s, asked(true, "", "a"), ` "a"`)
	checkLines(t, s, asked(true, "none", "none"), `none "none"`)
	checkLines(t, s, asked(true, "x y\n", "\xff\r"), "x y\n \"\uFFFD\\u000D\"")
	checkLines(t, s, asked(true, "en", "a", resolve.Error{}, resolve.Error{Code: 10, Name: "n"}, resolve.Error{Code: -1}, resolve.Error{Code: resolve.TooLong, Name: "a b\n\"\xff"}),
		`en "a"`, "!  ", "!  n", "!  ", "! long a b\n\"\xff")
	checkLines(t, ask("", ""), asked(false, "", "z"), `none "z"`) // of the Answer, not of the step
}

// TestP20_1ManyLines is of Lines, which no limit bounds.
func TestP20_1ManyLines(t *testing.T) {
	errors := slices.Repeat([]resolve.Error{{Code: resolve.NoVar, Name: "$x"}}, 1_000)
	want := append([]string{`en "a"`}, slices.Repeat([]string{"! var $x"}, 1_000)...)
	checkLines(t, ask("a", ""), run.Out{Has: true, Answer: chain.Answer{Tag: "en", Text: "a", Errors: errors}}, want...)
}

func bytesOf(t *testing.T, list ...script.Step) string {
	t.Helper()
	b, err := script.Encode(list)
	if err != api.OK {
		t.Fatalf("the steps can't be written: %d", err)
	}
	return string(b)
}

func TestP20_2Run(t *testing.T) {
	checkRun(t, "")
	if got := tell.Run(nil); len(got) != 0 {
		t.Errorf("Run of nil tells %q", got)
	}
	checkRun(t, "1:q,1:a,0:,1:0,", `none "a"`, "! message a")
	checkRun(t, "1:c,2:en,1:0,1:c,0:,1:0,1:c,2:en,1:0,", "ok", "arg", "ok") // what comes to an error ends nothing
	checkRun(t, "1:a,2:en,1:0,5:a = 1,1:q,1:a,0:,1:0,1:a,2:en,1:1,5:a = 2,1:q,1:a,0:,1:0,", "ok 0", `en "1"`, "ok 0 a", `en "2"`)
}

func TestP20_2Error(t *testing.T) {
	checkRun(t, "x", "error form at 0")
	checkRun(t, "1:c,2:en,1:0", "error form at 0")
	checkRun(t, "0:,", "error form at 0")
	checkRun(t, "1:c,2:en,1:0,?", "ok", "error form at 13")
	checkRun(t, "1:c,2:en,1:0,?1:c,2:en,1:0,", "ok", "error form at 13")
	checkRun(t, "1:q,1:a,0:,1:0,1:q,1:a,0:,1:1,1:x,1:n,1:x,", `none "a"`, "! message a", "error form at 15")
	checkRun(t, "1:a,0:,1:0,0:,1:c,2:en,1:0,1:q", "arg", "ok", "error form at 27")
	ok := "1:c,2:en,1:0,"
	checkRun(t, strings.Repeat(ok, 399)+"x", append(slices.Repeat([]string{"ok"}, 399), "error form at "+strconv.Itoa(399*len(ok)))...)
	checkRun(t, strings.Repeat(ok, 400)+"x", append(slices.Repeat([]string{"ok"}, 400), "error form at "+strconv.Itoa(400*len(ok)))...)
}

func TestP20_2TooManyBytes(t *testing.T) {
	ok := "1:c,2:en,1:0,"
	checkRun(t, strings.Repeat("x", api.MaxBytes), "error form at 0")
	checkRun(t, strings.Repeat("x", api.MaxBytes+1), "error many at 0")
	checkRun(t, ok+strings.Repeat("x", api.MaxBytes-len(ok)), "ok", "error form at 13")
	checkRun(t, ok+strings.Repeat("x", api.MaxBytes-len(ok)+1), "error many at 0")
	checkRun(t, strings.Repeat(ok, 2*api.MaxSteps), slices.Concat(slices.Repeat([]string{"ok"}, 400), []string{"many"})...)
	checkRun(t, strings.Repeat(ok, api.MaxBytes/len(ok)+1), "error many at 0")
}

// TestP20_2Many is of as many lines as may be, and of more, with and without bytes that are no step behind them.
func TestP20_2Many(t *testing.T) {
	ok := "1:c,2:en,1:0,"
	oks := func(n int) []string { return slices.Repeat([]string{"ok"}, n) }
	for _, n := range []int{0, 1, 399, 400} {
		checkRun(t, strings.Repeat(ok, n), oks(n)...)
	}
	for _, n := range []int{401, 402, 403, 800, 801, 4_095, 4_096, 4_097} {
		checkRun(t, strings.Repeat(ok, n), append(oks(400), "many")...)
		checkRun(t, strings.Repeat(ok, n)+"x", append(oks(400), "many")...)
	}
}

// TestP20_2ManyAsks is of steps that have several lines, where some of these are told.
func TestP20_2ManyAsks(t *testing.T) {
	three := bytesOf(t, ask("a", ""))
	lines := []string{`en "{$x}{$y}"`, "! var $x", "! var $y"}
	for _, ahead := range []int{1, 2, 3} { // lines ahead of those of three each
		head := bytesOf(t, append([]script.Step{add("en", "a = { $x }{ $y }")}, slices.Repeat([]script.Step{choose("en")}, ahead-1)...)...)
		all := append([]string{"ok 0"}, slices.Repeat([]string{"ok"}, ahead-1)...)
		for n := range 140 {
			if n >= 130 { // 391 lines and more
				want := slices.Clone(all)
				if len(want) > 400 {
					want = append(want[:400], "many")
				}
				checkRun(t, head+strings.Repeat(three, n), want...)
				if len(all) <= 400 {
					want = append(want, "error form at "+strconv.Itoa(len(head)+n*len(three)))
				}
				checkRun(t, head+strings.Repeat(three, n)+"?", want...)
			}
			all = append(all, lines...)
		}
	}
}

// TestP20_2ManyOfOne is of so many errors that a few steps have all lines.
func TestP20_2ManyOfOne(t *testing.T) {
	resource := "a = " + strings.Repeat("{ $x }", 100)
	steps := slices.Repeat([]script.Step{ask("a", "")}, 5)
	each := append([]string{`en "` + strings.Repeat("{$x}", 100) + `"`}, slices.Repeat([]string{"! var $x"}, 100)...)
	want := append([]string{"ok 0"}, slices.Repeat(each, 5)...)
	checkRun(t, bytesOf(t, append([]script.Step{add("en", resource)}, steps[:3]...)...), want[:304]...)
	checkRun(t, bytesOf(t, append([]script.Step{add("en", resource)}, steps[:3]...)...)+"?", append(slices.Clone(want[:304]), "error form at "+strconv.Itoa(13+4+len(resource)+1+3*15))...)
	checkRun(t, bytesOf(t, append([]script.Step{add("en", resource)}, steps...)...)+"?", append(want[:400], "many")...)
}

// TestP20HandedIn is of what is handed in, and of answers that are turned by whoever has them.
func TestP20HandedIn(t *testing.T) {
	twice := append(make([]string, 0, 8), "a", "b")
	o := run.Out{Twice: twice}
	first := tell.Lines(add("en", ""), o)
	if twice[0] != "a" || twice[1] != "b" || twice[:3][2] != "" {
		t.Errorf("what was handed in came to be %q", twice[:3])
	}
	clear(first)
	checkLines(t, add("en", ""), o, "ok 0 a b")
	b := []byte("1:a,2:en,1:0,5:a = 1,1:q,1:a,0:,1:0,")
	got := tell.Run(b)
	if string(b) != "1:a,2:en,1:0,5:a = 1,1:q,1:a,0:,1:0," {
		t.Errorf("Run made %q of what was handed in", b)
	}
	clear(b)
	if !slices.Equal(got, []string{"ok 0", `en "1"`}) {
		t.Errorf("what was told came to be %q", got)
	}
	clear(got)
	checkRun(t, "1:a,2:en,1:0,5:a = 1,1:q,1:a,0:,1:0,", "ok 0", `en "1"`)
}
