package script

import (
	"strings"

	"polyglot/api"
	"polyglot/value"
)

// Decode is the steps of bytes, up to the first that are none, and how many bytes these have.
func Decode(b []byte) ([]Step, int, api.Errno) {
	if len(b) > api.MaxBytes {
		return nil, 0, api.ErrMany
	}
	var list []Step
	r := reader{rest: string(b)}
	for r.rest != "" {
		at := len(b) - len(r.rest)
		s := r.step()
		if r.failed || !s.Right() {
			return list, at, api.ErrForm
		}
		if len(list) == api.MaxSteps { // not ahead of reading it, as only a step is one too many
			return list, at, api.ErrMany
		}
		list = append(list, s)
	}
	return list, len(b), api.OK
}

// reader reads texts, one behind the other. Once something isn't as it may be it has failed, and reads nothing more.
type reader struct {
	rest   string
	failed bool
}

func (r *reader) step() Step {
	s := Step{Kind: Kind(r.oneOf(stepSigns))}
	switch s.Kind {
	case Add:
		s.Tag = r.text()
		s.Over = r.oneOf(overSigns) == 1
		s.Bytes = r.text()
	case Choose:
		s.Tag = r.text()
		for n := r.count(); len(s.Wishes) < n && !r.failed; {
			s.Wishes = append(s.Wishes, r.text())
		}
	case Ask:
		s.Name = r.text()
		s.Attr = r.text()
		for n := r.count(); len(s.Args) < n && !r.failed; {
			s.Args = append(s.Args, r.arg())
		}
	}
	return s
}

func (r *reader) arg() Arg {
	var a Arg
	a.Name = r.text()
	a.Kind = value.Kind(r.oneOf(argSigns))
	a.Text = r.text()
	return a
}

// oneOf reads a text that is one of these signs: which one.
func (r *reader) oneOf(signs string) int {
	s := r.text()
	if len(s) != 1 || !strings.Contains(signs, s) {
		r.failed = true
		return 0
	}
	return strings.Index(signs, s)
}

// count reads a text that is a count.
func (r *reader) count() int {
	n, ok := countOf(r.text())
	if !ok {
		r.failed = true
	}
	return n
}

func (r *reader) text() string {
	if r.failed {
		return ""
	}
	digits, rest, _ := strings.Cut(r.rest, ":")
	length, ok := countOf(digits)
	if !ok || length >= len(rest) || rest[length] != ',' {
		r.failed = true
		return ""
	}
	r.rest = rest[length+1:]
	return rest[:length]
}

func countOf(s string) (int, bool) {
	n, ok := whole(s, 0, api.MaxBytes)
	return int(n), ok
}
