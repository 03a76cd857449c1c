package tell

import (
	"strconv"
	"strings"

	"polyglot/api"
	"polyglot/resolve"
	"polyglot/run"
	"polyglot/script"
	"polyglot/text"
)

// line is something that is told in one line.
type line interface {
	told() string
}

// word is a line by itself.
type word string

// added is what a resource came to.
type added struct {
	junk  int
	twice []string
}

// answered is a message as a text, and whose it is.
type answered struct {
	has        bool
	lang, text string
}

// wrong is what went wrong in a message.
type wrong resolve.Error

// stopped is where bytes are no steps any more.
type stopped struct {
	err api.Errno
	at  int
}

// linesOf is what is told of a step of a kind; nothing of what is no kind.
func linesOf(kind script.Kind, o run.Out) []line {
	if o.Err != api.OK {
		return []line{word(o.Err.Word())}
	}
	switch kind {
	case script.Add:
		return []line{added{o.Junk, o.Twice}}
	case script.Choose:
		return []line{word("ok")}
	case script.Ask:
		list := []line{answered{o.Has, o.Answer.Tag, o.Answer.Text}}
		for _, e := range o.Answer.Errors {
			list = append(list, wrong(e))
		}
		return list
	}
	return nil
}

func (w word) told() string { return string(w) }

func (a added) told() string {
	words := []string{"ok", strconv.Itoa(a.junk)}
	return strings.Join(append(words, a.twice...), " ")
}

func (a answered) told() string {
	lang := a.lang
	if !a.has {
		lang = "none"
	}
	return lang + " " + text.Quote(a.text)
}

func (w wrong) told() string { return "! " + Word(w.Code) + " " + w.Name }

func (s stopped) told() string {
	return "error " + s.err.Word() + " at " + strconv.Itoa(s.at)
}
