// Package dec is layer 2: see shared/doc/02-dec.md.
package dec

import (
	"cmp"
	"strconv"
	"strings"

	"polyglot/api"
)

// Dec is a decimal number: its digits as a whole number, of which the last Scale ones stand behind the point.
type Dec struct {
	Neg    bool
	Digits string
	Scale  int
}

// Parse is the number that a text tells; false: it tells none.
func Parse(s string) (Dec, bool) {
	size, neg := strings.CutPrefix(s, "-")
	whole, part, hasPoint := strings.Cut(size, ".")
	if !areDigits(whole) || hasPoint && !areDigits(part) || len(whole)+len(part) > api.MaxDigits {
		return Dec{}, false
	}
	last := len(whole) - 1 // may be a nought: one digit stands ahead of the point
	whole = strings.TrimLeft(whole[:last], "0") + whole[last:]
	return Dec{neg, whole + part, len(part)}, true
}

func areDigits(s string) bool {
	for i := range len(s) {
		if s[i] < '0' || s[i] > '9' {
			return false
		}
	}
	return s != ""
}

// Int is a whole number.
func Int(n int64) Dec {
	digits, neg := strings.CutPrefix(strconv.FormatInt(n, 10), "-")
	return Dec{neg, digits, 0}
}

// point is how many digits stand ahead of the point. It is held to what there is, so that no number at all makes a call panic.
func (d Dec) point() int {
	return min(max(len(d.Digits)-d.Scale, 0), len(d.Digits))
}

// Whole is the digits ahead of the point, Part those behind it.
func (d Dec) Whole() string { return d.Digits[:d.point()] }

// Part is the digits behind the point.
func (d Dec) Part() string { return d.Digits[d.point():] }

// Right tells whether a number is such as calls tell.
func (d Dec) Right() bool {
	if !areDigits(d.Digits) || d.Scale < 0 || d.Scale >= len(d.Digits) {
		return false
	}
	return d.Digits[0] != '0' || len(d.Digits)-d.Scale == 1
}

// String is a number as a text.
func (d Dec) String() string {
	s := d.Whole()
	if d.Neg {
		s = "-" + s
	}
	if d.Scale != 0 {
		s += "." + d.Part()
	}
	return s
}

// Zero tells whether it is nought.
func (d Dec) Zero() bool { return strings.Trim(d.Digits, "0") == "" }

// Compare is the order of two numbers: -1, 0 or 1.
func (d Dec) Compare(o Dec) int {
	if d.below() != o.below() {
		if d.below() {
			return -1
		}
		return 1
	}
	if d.below() { // farther from nought is less there
		return compareSizes(o, d)
	}
	return compareSizes(d, o)
}

// below tells whether a number is below nought; nought with Neg isn't.
func (d Dec) below() bool { return d.Neg && !d.Zero() }

func compareSizes(d, o Dec) int {
	whole, other := strings.TrimLeft(d.Whole(), "0"), strings.TrimLeft(o.Whole(), "0")
	if c := cmp.Compare(len(whole), len(other)); c != 0 {
		return c
	}
	if c := cmp.Compare(whole, other); c != 0 {
		return c
	}
	return cmp.Compare(strings.TrimRight(d.Part(), "0"), strings.TrimRight(o.Part(), "0"))
}

// Round is a number with so many digits behind the point at most; of two that are as near the even one.
func (d Dec) Round(scale int) Dec {
	scale = max(scale, 0)
	part := d.Part()
	if len(part) <= scale {
		return d
	}
	kept := d.Digits[:d.point()+scale]
	if roundsUp(kept, part[scale:]) {
		kept = plusOne(kept)
	}
	return Dec{d.Neg, kept, scale}
}

// roundsUp tells whether, of digits, the kept ones are raised where the others are left out.
func roundsUp(kept, others string) bool {
	switch cmp.Compare(strings.TrimRight(others, "0"), "5") {
	case 0:
		return kept != "" && kept[len(kept)-1]%2 == 1 // the digits' signs are odd where they are
	case 1:
		return true
	}
	return false
}

func plusOne(digits string) string {
	out := []byte(digits)
	for k := range len(out) {
		i := len(out) - 1 - k
		if out[i] != '9' {
			out[i]++
			return string(out)
		}
		out[i] = '0'
	}
	return "1" + string(out)
}

// Trim is a number without noughts at its end behind the point, but for so many digits.
func (d Dec) Trim(least int) Dec {
	part := d.Part()
	least = max(least, 0)
	if len(part) <= least {
		return d
	}
	noughts := len(part) - least - len(strings.TrimRight(part[least:], "0"))
	return Dec{d.Neg, d.Digits[:len(d.Digits)-noughts], len(part) - noughts}
}

// Pad is a number with so many digits behind the point at least.
func (d Dec) Pad(least int) Dec {
	least = min(least, api.MaxDigits)
	have := len(d.Part())
	if have >= least {
		return d
	}
	return Dec{d.Neg, d.Digits + strings.Repeat("0", least-have), least}
}

// Group is digits in groups of three, with something between.
func Group(digits, between string) string {
	var out strings.Builder
	for i := range len(digits) {
		if i > 0 && (len(digits)-i)%3 == 0 {
			out.WriteString(between)
		}
		out.WriteByte(digits[i])
	}
	return out.String()
}
