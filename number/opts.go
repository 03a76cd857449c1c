package number

import (
	"strconv"

	"polyglot/api"
	"polyglot/dec"
)

// Opts is how a number is written.
type Opts struct {
	MinInt, MinFrac, MaxFrac int
	Plain                    bool // without groups
	Rank                     bool // a place in an order
}

// Default is how a number is written where nothing is said.
func Default() Opts { return Opts{MinInt: 1, MaxFrac: 3} }

// MaxFrac is how many digits may be asked for.
const MaxFrac = 20

// Set turns an option by its name: to a number, or a text.
func (o Opts) Set(name, text string, d dec.Dec, isText bool) (Opts, api.Errno) {
	ok := false
	if isText {
		ok = o.setText(name, text)
	} else {
		ok = o.setNumber(name, d)
	}
	if !ok {
		return Opts{}, api.ErrArg
	}
	return o, api.OK
}

// setText tells whether there is such an option, and such a text of it.
func (o *Opts) setText(name, text string) bool {
	switch name {
	case "useGrouping":
		o.Plain = text == "false"
		return o.Plain || text == "true"
	case "type":
		o.Rank = text == "ordinal"
		return o.Rank || text == "cardinal"
	}
	return false
}

// setNumber tells whether there is such an option, and such a number of it.
func (o *Opts) setNumber(name string, d dec.Dec) bool {
	n, ok := count(d)
	if !ok {
		return false
	}
	switch name {
	case "minimumIntegerDigits":
		o.MinInt = n
		return n != 0
	case "minimumFractionDigits":
		o.MinFrac, o.MaxFrac = n, max(n, o.MaxFrac)
		return true
	case "maximumFractionDigits":
		o.MinFrac, o.MaxFrac = min(n, o.MinFrac), n
		return true
	}
	return false
}

// count is a number as one of digits; false: it isn't whole, or there may not be so many.
func count(d dec.Dec) (int, bool) {
	whole := d.Trim(0)
	if whole.Scale != 0 || d.Compare(dec.Int(0)) < 0 || d.Compare(dec.Int(MaxFrac)) > 0 {
		return 0, false
	}
	n, err := strconv.Atoi(whole.Digits)
	return n, err == nil
}
