package run_test

import (
	"slices"
	"strconv"
	"strings"
	"testing"

	"polyglot/api"
	"polyglot/chain"
	"polyglot/resolve"
	"polyglot/run"
	"polyglot/script"
	"polyglot/value"
)

// same tells whether two outs are the same; lists that are nil and empty are one.
func same(a, b run.Out) bool {
	return a.Err == b.Err && slices.Equal(a.Twice, b.Twice) && a.Junk == b.Junk && a.Has == b.Has &&
		a.Answer.Text == b.Answer.Text && a.Answer.Tag == b.Answer.Tag && slices.Equal(a.Answer.Errors, b.Answer.Errors)
}

func add(tag, resource string) script.Step {
	return script.Step{Kind: script.Add, Tag: tag, Bytes: resource}
}

func over(tag, resource string) script.Step {
	return script.Step{Kind: script.Add, Tag: tag, Bytes: resource, Over: true}
}

func choose(tag string, wishes ...string) script.Step {
	return script.Step{Kind: script.Choose, Tag: tag, Wishes: wishes}
}

func ask(name, attr string, args ...script.Arg) script.Step {
	return script.Step{Kind: script.Ask, Name: name, Attr: attr, Args: args}
}

func str(name, s string) script.Arg    { return script.Arg{Name: name, Kind: value.Text, Text: s} }
func num(name, s string) script.Arg    { return script.Arg{Name: name, Kind: value.Number, Text: s} }
func moment(name, s string) script.Arg { return script.Arg{Name: name, Kind: value.Moment, Text: s} }

// added is the Out of an Add, answered that of an Ask that a language answers.
func added(junk int, twice ...string) run.Out { return run.Out{Junk: junk, Twice: twice} }

func answered(tag, told string, errors ...resolve.Error) run.Out {
	return run.Out{Has: true, Answer: chain.Answer{Tag: tag, Text: told, Errors: errors}}
}

// unanswered is the Out of an Ask that none answers.
func unanswered(name string) run.Out {
	return run.Out{Answer: chain.Answer{Text: name, Errors: []resolve.Error{{Code: resolve.NoMessage, Name: name}}}}
}

func wrong() run.Out { return run.Out{Err: api.ErrArg} }

// done is a step, and what is to come of it.
type done struct {
	step script.Step
	want run.Out
}

// check does steps from nothing on: by Do, by Steps, and as bytes, if they can be written.
func check(t *testing.T, list ...done) {
	t.Helper()
	var steps []script.Step
	var want []run.Out
	c := chain.New()
	for i, x := range list {
		steps, want = append(steps, x.step), append(want, x.want)
		if got := run.Do(c, x.step); !same(got, x.want) {
			t.Errorf("step %d, %+v, comes to %+v, want %+v", i, x.step, got, x.want)
		}
	}
	if got := run.Steps(steps); !slices.EqualFunc(got, want, same) {
		t.Errorf("steps %+v come to %+v, want %+v", steps, got, want)
	}
	if b, err := script.Encode(steps); err == api.OK {
		checkBytes(t, string(b), len(b), api.OK, want...)
	}
}

func checkBytes(t *testing.T, s string, at int, err api.Errno, want ...run.Out) {
	t.Helper()
	for range 2 { // the second time as the first one: nothing stays
		got, gotAt, gotErr := run.Bytes([]byte(s))
		if !slices.EqualFunc(got, want, same) || gotAt != at || gotErr != err {
			t.Errorf("Bytes of %.200q tells %d outs, %.300v, %d, %d, want %d, %.300v, %d, %d", s, len(got), got, gotAt, gotErr, len(want), want, at, err)
		}
	}
}

func TestP19_1Add(t *testing.T) {
	check(t,
		done{add("en", "a = 1\n-a = 2\n?\n.b\nc = 3"), added(1)},
		done{add("en", "a = 4\nb = 5\n-a = 6\na = 7\n}"), added(1, "a", "-a", "a")},
		done{ask("a", ""), answered("en", "1")},
		done{over("en", "a = 8 { -a }\n{\n-a = 9\n?"), added(2, "a", "-a")},
		done{ask("a", ""), answered("en", "8 9")},
		done{add("EN", "a = 10"), added(0, "a")},
		done{ask("a", ""), answered("en", "8 9")},
		done{over("de", "a = 11\na = 12"), added(0, "a")},
		done{add("de", "\r\nb\r = \xff\r"), added(0)},
		done{add("fr", ""), added(0)},
		done{choose("de"), run.Out{}},
		done{ask("a", ""), answered("de", "12")},
		done{ask("b", ""), answered("de", "\uFFFD")},
	)
}

func TestP19_1AddOfNoTag(t *testing.T) {
	for _, tag := range []string{"", "?", "e", "en_US", "en-", " en", "en-1996-1996", "\xff"} {
		check(t,
			done{add("en", "a = 1"), added(0)},
			done{add(tag, "a = 2\na = 3\n?\nb = 4"), wrong()},
			done{over(tag, "a = 2\na = 3\n?\nb = 4"), wrong()},
			done{ask("a", ""), answered("en", "1")},
			done{ask("b", ""), unanswered("b")},
		)
	}
}

func TestP19_1Choose(t *testing.T) {
	check(t,
		done{choose("fr", "de-AT", "?", ""), run.Out{}}, // ahead of what comes
		done{add("en", "a = en"), added(0)},
		done{ask("a", ""), unanswered("a")},
		done{add("fr", "a = fr"), added(0)},
		done{ask("a", ""), answered("fr", "fr")},
		done{add("de", "a = de"), added(0)},
		done{ask("a", ""), answered("de", "de")},
		done{choose("?", "en"), wrong()},
		done{choose("", "en"), wrong()},
		done{ask("a", ""), answered("de", "de")},
		done{choose("de", "EN", "fr"), run.Out{}},
		done{ask("a", ""), answered("en", "en")},
		done{choose("FR"), run.Out{}},
		done{ask("a", ""), answered("fr", "fr")},
		done{choose("es", "it"), run.Out{}},
		done{ask("a", ""), unanswered("a")},
	)
}

func TestP19_1Ask(t *testing.T) {
	check(t,
		done{ask("a", ""), unanswered("a")},
		done{ask("a", "k"), unanswered("a.k")},
		done{ask("", ""), unanswered("")},
		done{add("de", "a = de\n .k = k { $x }\nb = { c } { $x } { -t }"), added(0)},
		done{add("en", "a = en\n .k = k\n .l = l { a.l }\nc = c"), added(0)},
		done{ask("a", ""), answered("de", "de")},
		done{ask("a", "k"), answered("de", "k {$x}", resolve.Error{Code: resolve.NoVar, Name: "$x"})},
		done{ask("a", "k", str("x", "X")), answered("de", "k X")},
		done{ask("a", "k"), answered("de", "k {$x}", resolve.Error{Code: resolve.NoVar, Name: "$x"})}, // no argument stays
		done{ask("a", "l"), answered("en", "l {a.l}", resolve.Error{Code: resolve.Cyclic, Name: "a.l"})},
		done{ask("c", "", str("x", "X")), answered("en", "c")},
		done{ask("k", ""), unanswered("k")},
		done{ask("a", "z", str("x", "X")), unanswered("a.z")},
		done{ask("b", "", str("c", "C"), str("-t", "T")), answered("de", "{c} {$x} {-t}",
			resolve.Error{Code: resolve.NoMessage, Name: "c"}, resolve.Error{Code: resolve.NoVar, Name: "$x"}, resolve.Error{Code: resolve.NoTerm, Name: "-t"})},
	)
}

func TestP19_1Args(t *testing.T) {
	resource := "a = { $x }, { $y }\nkind = { $x ->\n [one] one\n [a] the a\n *[other] other\n }\nday = { DATETIME($x, style: \"full\") }\nnum = { NUMBER($x, minimumFractionDigits: 2) }"
	none := resolve.Error{Code: resolve.NoVar, Name: "$y"}
	check(t,
		done{add("en", resource), added(0)},
		done{ask("a", "", str("x", "1234.50"), num("y", "1234.50")), answered("en", "1234.50, 1,234.5")},
		done{ask("a", "", moment("x", "951782400"), moment("y", "-86400")), answered("en", "2/29/2000, 12/31/1969")},
		done{ask("a", "", num("y", "-0.5"), str("x", "")), answered("en", ", -0.5")},
		done{ask("a", "", str("x", "1"), str("x", "2"), num("x", "3")), answered("en", "3, {$y}", none)}, // of one name the last one's
		done{ask("a", "", num("x", "3"), str("y", "y"), str("x", "2"), moment("y", "0"), str("x", "1")), answered("en", "1, 1/1/1970")},
		done{ask("a", "", str("X", "1"), str("", "2"), str("$x", "3"), str("x", "4")), answered("en", "4, {$y}", none)},
		done{ask("kind", "", num("x", "1")), answered("en", "one")},
		done{ask("kind", "", str("x", "1")), answered("en", "other")},
		done{ask("kind", "", str("x", "a")), answered("en", "the a")},
		done{ask("kind", "", num("x", "1.0")), answered("en", "one")},
		done{ask("day", "", moment("x", "0")), answered("en", "1/1/1970, 12:00 AM")},
		done{ask("day", "", num("x", "0")), answered("en", "{DATETIME()}", resolve.Error{Code: resolve.BadArg, Name: "DATETIME()"})},
		done{ask("num", "", num("x", "-1234")), answered("en", "-1,234.00")},
		done{ask("num", "", str("x", "1")), answered("en", "{NUMBER()}", resolve.Error{Code: resolve.BadArg, Name: "NUMBER()"})},
	)
}

// noSteps is steps that aren't Right, though most have what another kind takes.
func noSteps() []script.Step {
	return []script.Step{
		{Kind: 3, Tag: "en", Bytes: "b = 2", Over: true}, {Kind: -1, Tag: "en", Bytes: "b = 2"}, {Kind: 3, Tag: "de"}, {Kind: 3, Name: "a"}, {Kind: 1 << 40},
		{Tag: "en", Bytes: "b = 2", Name: "a"}, {Tag: "en", Bytes: "b = 2", Attr: "k"}, {Tag: "en", Bytes: "b = 2", Over: true, Wishes: []string{"de"}}, {Tag: "en", Bytes: "b = 2", Args: []script.Arg{str("x", "1")}},
		{Kind: script.Choose, Tag: "de", Bytes: "b = 2"}, {Kind: script.Choose, Tag: "de", Over: true}, {Kind: script.Choose, Tag: "de", Name: "a"}, {Kind: script.Choose, Tag: "de", Attr: "k"}, {Kind: script.Choose, Tag: "de", Args: []script.Arg{str("x", "1")}},
		{Kind: script.Ask, Name: "a", Tag: "de"}, {Kind: script.Ask, Name: "a", Bytes: "b = 2"}, {Kind: script.Ask, Name: "a", Over: true}, {Kind: script.Ask, Name: "a", Wishes: []string{"de"}},
		ask("a", "", num("x", "z")), ask("a", "", num("x", "")), ask("a", "", moment("x", "-0")), ask("a", "", moment("x", "1.0")), ask("a", "", script.Arg{Name: "x", Kind: 3, Text: "1"}),
		ask("a", "", num("x", "z"), str("x", "1")), ask("z", "", str("x", "1"), num("x", "z")),
	}
}

func TestP19_1NotRight(t *testing.T) {
	for _, s := range noSteps() {
		check(t, done{s, wrong()})
		check(t,
			done{s, wrong()},
			done{ask("b", ""), unanswered("b")},
			done{add("en", "a = en"), added(0)},
			done{add("de", "a = de"), added(0)},
			done{s, wrong()},
			done{s, wrong()},
			done{ask("a", ""), answered("en", "en")}, // nothing is chosen
			done{ask("b", ""), unanswered("b")},
			done{choose("en", "fr"), run.Out{}},
			done{s, wrong()},
			done{add("en", "b = 3"), added(0)},
			done{ask("a", ""), answered("en", "en")},
			done{ask("b", ""), answered("en", "3")},
		)
	}
}

func TestP19_1Steps(t *testing.T) {
	if got := run.Steps(nil); len(got) != 0 {
		t.Errorf("Steps of nil tells %+v", got)
	}
	for range 2 { // each to a new chain
		check(t, done{ask("a", ""), unanswered("a")}, done{add("en", "a = 1"), added(0)}, done{ask("a", ""), answered("en", "1")})
	}
	many := []script.Step{add("en", "a = { $x }")}
	for i := range 5_000 { // more than bytes may have
		many = append(many, ask("a", "", num("x", strconv.Itoa(i))))
	}
	got := run.Steps(many)
	if len(got) != 5_001 || got[0].Err != api.OK || got[5_000].Answer.Text != "4,999" {
		t.Errorf("Steps of 5,001 steps tells %d", len(got))
	}
}

// TestP19_1DoTo is of chains that have something: what is done adds to it, and to no other one.
func TestP19_1DoTo(t *testing.T) {
	c, other := chain.New(), chain.New()
	c.Add("en", []byte("a = 1"), false)
	if got := run.Do(c, ask("a", "")); !same(got, answered("en", "1")) {
		t.Errorf("what was there is answered by %+v", got)
	}
	run.Do(c, add("de", "b = 2"))
	run.Do(c, choose("en", "de"))
	if order := c.Order(); strings.Join(order, " ") != "de en" {
		t.Errorf("the order is %q", order)
	}
	if a, ok := c.Format("b", "", nil); a.Text != "2" || !ok {
		t.Errorf("what was added is answered by %+v", a)
	}
	if order := other.Order(); len(order) != 0 {
		t.Errorf("another one's order is %q", order)
	}
}

func TestP19_1Bytes(t *testing.T) {
	checkBytes(t, "", 0, api.OK)
	checkBytes(t, "1:a,2:en,1:0,5:a = 1,1:q,1:a,0:,1:0,", 36, api.OK, added(0), answered("en", "1"))
	checkBytes(t, "1:q,1:a,0:,1:0,", 15, api.OK, unanswered("a"))
	checkBytes(t, "1:q,1:a,1:k,1:0,1:c,1:?,1:0,", 28, api.OK, unanswered("a.k"), wrong()) // what comes to an error ends nothing
	checkBytes(t, "1:a,0:,1:1,5:a = 1,1:c,2:en,1:0,1:q,1:a,0:,1:0,", 47, api.OK, wrong(), run.Out{}, unanswered("a"))
	for _, s := range []string{"x", "1:q,1:a,0:,1:0", "1:q,1:a,0:,1:1,1:x,1:n,1:z,", "1:a,2:en,1:2,0:,", "0:,"} {
		checkBytes(t, s, 0, api.ErrForm)
		checkBytes(t, s+"1:q,1:a,0:,1:0,", 0, api.ErrForm)
		checkBytes(t, "1:a,2:en,1:0,5:a = 1,1:q,1:a,0:,1:0,"+s+"1:q,1:a,0:,1:0,", 36, api.ErrForm, added(0), answered("en", "1"))
	}
}

func TestP19_1BytesMany(t *testing.T) {
	one := "1:q,0:,0:,1:0,"
	want := slices.Repeat([]run.Out{unanswered("")}, api.MaxSteps)
	most := strings.Repeat(one, api.MaxSteps)
	checkBytes(t, most, len(most), api.OK, want...)
	checkBytes(t, most+one, len(most), api.ErrMany, want...)
	checkBytes(t, most+"x", len(most), api.ErrForm, want...)
	checkBytes(t, one+strings.Repeat("x", api.MaxBytes-len(one)), len(one), api.ErrForm, want[0])
	checkBytes(t, one+strings.Repeat("x", api.MaxBytes-len(one)+1), 0, api.ErrMany)
	checkBytes(t, strings.Repeat(one, api.MaxBytes/len(one)+1), 0, api.ErrMany)
}

// TestP19HandedIn is of what is handed in, and turned later on.
func TestP19HandedIn(t *testing.T) {
	c := chain.New()
	list := []script.Step{add("en", "a = en { $x }"), add("de", "a = de { $x }"), choose("en", "de"), ask("a", "", str("x", "X"))}
	for _, s := range list {
		run.Do(c, s)
	}
	if list[2].Wishes[0] != "de" || list[3].Args[0] != str("x", "X") {
		t.Errorf("what was handed in came to be %+v", list)
	}
	list[2].Wishes[0] = "fr"
	list[3].Args[0].Text = "Y"
	if got := run.Do(c, ask("a", "", str("x", "X"))); !same(got, answered("de", "de X")) {
		t.Errorf("what was handed in counts later on: %+v", got)
	}
	b := []byte("1:a,2:en,1:0,5:a = 1,1:q,1:a,0:,1:0,")
	got, _, _ := run.Bytes(b)
	if string(b) != "1:a,2:en,1:0,5:a = 1,1:q,1:a,0:,1:0," {
		t.Errorf("Bytes made %q of what was handed in", b)
	}
	clear(b)
	if !same(got[1], answered("en", "1")) {
		t.Errorf("what was told came to be %+v", got[1])
	}
}

// TestP19Answers is of answers that are turned by whoever has them.
func TestP19Answers(t *testing.T) {
	c := chain.New()
	run.Do(c, add("en", "a = { $x }{ $y }"))
	for range 2 {
		twice := run.Do(c, over("en", "a = { $x }{ $y }"))
		if !same(twice, added(0, "a")) {
			t.Errorf("Add tells %+v", twice)
		}
		clear(twice.Twice)
		told := run.Do(c, ask("a", ""))
		if !same(told, answered("en", "{$x}{$y}", resolve.Error{Code: resolve.NoVar, Name: "$x"}, resolve.Error{Code: resolve.NoVar, Name: "$y"})) {
			t.Errorf("Ask tells %+v", told)
		}
		clear(told.Answer.Errors)
	}
}
