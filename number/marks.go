package number

import (
	"sync"
	"sync/atomic"
)

// Marks is the signs of languages, made once; many may ask.
type Marks struct {
	made  sync.Once
	signs map[string]signs // by language; of others they are the usual ones
	asked atomic.Int64
}

// signs is what stands ahead of a number's part, and between groups.
type signs struct{ point, between string }

// Of is a language's point and what stands between groups.
func (m *Marks) Of(lang string) (string, string) {
	m.asked.Add(1)
	m.made.Do(m.makeSigns)
	if s, ok := m.signs[lang]; ok {
		return s.point, s.between
	}
	return ".", ","
}

func (m *Marks) makeSigns() {
	const narrowNoBreak, noBreak = "\u202f", "\u00a0"
	m.signs = map[string]signs{
		"de": {",", "."},
		"nl": {",", "."},
		"es": {",", "."},
		"fr": {",", narrowNoBreak},
		"ru": {",", noBreak},
		"cs": {",", noBreak},
		"pl": {",", noBreak},
		"sv": {",", noBreak},
	}
}

// Asked is how often signs were asked for.
func (m *Marks) Asked() int64 { return m.asked.Load() }
