package number_test

import (
	"sync"
	"testing"

	"polyglot/dec"
	"polyglot/number"
)

// usual is the point, and what stands between groups, where a language has no others.
var usual = [2]string{".", ","}

// languages is the languages that have others.
func languages() map[string][2]string {
	return map[string][2]string{
		"de": {",", "."}, "nl": {",", "."}, "es": {",", "."},
		"fr": {",", "\u202f"},
		"ru": {",", "\u00a0"}, "cs": {",", "\u00a0"}, "pl": {",", "\u00a0"}, "sv": {",", "\u00a0"},
	}
}

func checkOf(t *testing.T, m *number.Marks, lang string, want [2]string) {
	t.Helper()
	if point, between := m.Of(lang); [2]string{point, between} != want {
		t.Errorf("Of(%q) is %q, %q, want %q", lang, point, between, want)
	}
}

func TestP12_2Of(t *testing.T) {
	m := &number.Marks{}
	for range 2 {
		for lang, want := range languages() {
			checkOf(t, m, lang, want)
			checkOf(t, &number.Marks{}, lang, want) // the first one that is asked, too
		}
		for _, lang := range []string{"en", "ja", "ar", "it", "pt", "zh", "da", "", "x", "d", "deu", "DE", "De", "de-AT", "de ", " de", "fr-FR", "rus", "sv\x00", "\xff", "other"} {
			checkOf(t, m, lang, usual)
			checkOf(t, &number.Marks{}, lang, usual)
		}
	}
}

func TestP12_2Asked(t *testing.T) {
	m, other := &number.Marks{}, &number.Marks{}
	check := func(want int64) {
		t.Helper()
		for range 2 { // Asked itself isn't counted
			if got := m.Asked(); got != want {
				t.Errorf("asked %d times, want %d", got, want)
			}
		}
	}
	check(0)
	m.Of("de")
	check(1)
	m.Of("de")
	m.Of("")
	m.Of("no language")
	check(4)
	number.Format(m, "de", dec.Int(1), number.Default())
	check(5)
	number.Format(m, "xx", dec.Int(1234), number.Default())
	check(6)
	number.Format(m, "fr", dec.Int(1234), number.Opts{MinInt: 1, Plain: true}) // which needs none of them
	check(7)
	other.Of("de")
	number.Format(other, "de", dec.Int(1), number.Default())
	number.Default().Set(minFrac, "", dec.Int(1), false)
	number.Default().Shape(dec.Int(1))
	check(7)
	if other.Asked() != 2 {
		t.Errorf("the other one was asked %d times", other.Asked())
	}
}

// TestP12_2AtOnce is of marks that are asked, the first time too, by many at one moment.
func TestP12_2AtOnce(t *testing.T) {
	const rounds, workers, times = 50, 16, 100
	for range rounds {
		m := &number.Marks{}
		var ready, all sync.WaitGroup
		ready.Add(1)
		for range workers {
			all.Go(func() {
				ready.Wait()
				for range times {
					for lang, want := range languages() {
						checkOf(t, m, lang, want)
					}
					checkOf(t, m, "en", usual)
					if got := number.Format(m, "de", dec.Int(-1234), number.Default()); got != "-1.234" {
						t.Errorf("-1234 is %q", got)
					}
				}
			})
		}
		ready.Done()
		all.Wait()
		if want := int64(workers * times * 10); m.Asked() != want {
			t.Fatalf("asked %d times, want %d", m.Asked(), want)
		}
	}
}
