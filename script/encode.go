package script

import (
	"strconv"

	"polyglot/api"
)

// What tells a step's kind, an argument's kind and whether a step is over what is there: a sign each, in the order of what they stand for.
const (
	stepSigns = "acq"
	argSigns  = "tnm"
	overSigns = "01"
)

// Encode is steps as bytes.
func Encode(list []Step) ([]byte, api.Errno) {
	if len(list) > api.MaxSteps {
		return nil, api.ErrMany
	}
	for _, s := range list {
		if !s.Right() {
			return nil, api.ErrArg
		}
	}
	var out []byte
	for _, s := range list {
		for _, t := range s.texts() {
			out = appendText(out, t)
		}
	}
	return out, api.OK
}

// texts is what a step that is Right is made of.
func (s Step) texts() []string {
	list := []string{stepSigns[s.Kind : s.Kind+1]}
	switch s.Kind {
	case Add:
		return append(list, s.Tag, overSign(s.Over), s.Bytes)
	case Choose:
		list = append(list, s.Tag, strconv.Itoa(len(s.Wishes)))
		return append(list, s.Wishes...)
	}
	list = append(list, s.Name, s.Attr, strconv.Itoa(len(s.Args)))
	for _, a := range s.Args {
		list = append(list, a.Name, argSigns[a.Kind:a.Kind+1], a.Text)
	}
	return list
}

func overSign(over bool) string {
	if over {
		return overSigns[1:]
	}
	return overSigns[:1]
}

func appendText(out []byte, s string) []byte {
	out = strconv.AppendInt(out, int64(len(s)), 10)
	out = append(out, ':')
	out = append(out, s...)
	return append(out, ',')
}
