package moment_test

import (
	"fmt"
	"math"
	"math/rand/v2"
	"testing"
	"time"

	"polyglot/moment"
)

const (
	perHour = 3600
	perDay  = 24 * perHour
	maxTime = 1 << 53
)

// alike is the languages in which moments are written alike, with one of no name for all others.
var alike = map[string][]string{
	"en":     {"en"},
	"points": {"de", "cs", "pl", "ru"},
	"bars":   {"fr", "es"},
	"": {"", "nl", "sv", "ar", "ja", "it", "pt", "zh", "da", "x", "e", "eng", "deu", "EN", "En", "eN", "DE", "FR", "Fr", "en-US", "de-AT", "fr-FR", "es-419", "en ", " en", " de", "de ", "fr ", "es\x00",
		"cs-CZ", "PL", "rus", "date", "time", "full", "\xff", "\u00e9"},
}

func checkFormat(t *testing.T, lang string, sec int64, s moment.Style, want string) {
	t.Helper()
	if got := moment.Format(lang, sec, s); got != want {
		t.Errorf("Format(%q, %d, %d) is %q, want %q", lang, sec, s, got, want)
	}
}

// at is the second at which a day begins.
func at(year int, month time.Month, day int) int64 {
	return time.Date(year, month, day, 0, 0, 0, 0, time.UTC).Unix()
}

func TestP13_1Parse(t *testing.T) {
	for s, want := range map[string]moment.Style{"date": moment.Day, "time": moment.Time, "full": moment.Both} {
		if got, ok := moment.Parse(s); got != want || !ok {
			t.Errorf("Parse(%q) is %d, %v", s, got, ok)
		}
	}
	for _, s := range []string{
		"", "Date", "DATE", "Time", "TIME", "Full", "FULL", "day", "Day", "both", "Both", "d", "dat", "dates", "date ", " date", "tim", "times", "time ", " time", "ful", "fulls", "full ", " full",
		"datetime", "date time", "date,time", "fulltime", "date\n", "time\x00", "0", "1", "2", "short", "long", "medium", "\xff", "d\u00e0te",
	} {
		if got, ok := moment.Parse(s); got != moment.Day || ok {
			t.Errorf("Parse(%q) is %d, %v", s, got, ok)
		}
	}
	if moment.Day != 0 || moment.Time != 1 || moment.Both != 2 {
		t.Errorf("the styles are %d, %d, %d", moment.Day, moment.Time, moment.Both)
	}
}

// TestP13_1Digits is of years with fewer digits than are asked for, as many, more, and below 0.
func TestP13_1Digits(t *testing.T) {
	for year, want := range map[int]string{
		0: "0000", 1: "0001", 9: "0009", 10: "0010", 99: "0099", 100: "0100", 476: "0476", 999: "0999", 1000: "1000", 1582: "1582", 2026: "2026", 9999: "9999",
		10_000: "10000", 12_345: "12345", 123_456: "123456", 285_428_750: "285428750",
		-1: "-0001", -9: "-0009", -10: "-0010", -99: "-0099", -100: "-0100", -476: "-0476", -999: "-0999", -1000: "-1000", -9999: "-9999", -10_000: "-10000", -123_456: "-123456", -285_424_811: "-285424811",
	} {
		sec := at(year, time.March, 5)
		checkFormat(t, "en", sec, moment.Day, "3/5/"+want)
		checkFormat(t, "de", sec, moment.Day, "05.03."+want)
		checkFormat(t, "fr", sec, moment.Day, "05/03/"+want)
		checkFormat(t, "ja", sec, moment.Day, want+"-03-05")
		checkFormat(t, "en", sec, moment.Both, "3/5/"+want+", 12:00 AM")
		checkFormat(t, "ja", sec, moment.Both, want+"-03-05 00:00")
	}
}

func TestP13_2Day(t *testing.T) {
	for _, x := range []struct {
		sec  int64
		want map[string]string
	}{
		{0, map[string]string{"en": "1/1/1970", "points": "01.01.1970", "bars": "01/01/1970", "": "1970-01-01"}},
		{-1, map[string]string{"en": "12/31/1969", "points": "31.12.1969", "bars": "31/12/1969", "": "1969-12-31"}},
		{perDay - 1, map[string]string{"en": "1/1/1970", "points": "01.01.1970", "bars": "01/01/1970", "": "1970-01-01"}},
		{perDay, map[string]string{"en": "1/2/1970", "points": "02.01.1970", "bars": "02/01/1970", "": "1970-01-02"}},
		{951_782_400, map[string]string{"en": "2/29/2000", "points": "29.02.2000", "bars": "29/02/2000", "": "2000-02-29"}},
		{at(2026, time.November, 9), map[string]string{"en": "11/9/2026", "points": "09.11.2026", "bars": "09/11/2026", "": "2026-11-09"}},
		{at(2026, time.September, 10), map[string]string{"en": "9/10/2026", "points": "10.09.2026", "bars": "10/09/2026", "": "2026-09-10"}},
		{at(2026, time.October, 11) + perDay - 1, map[string]string{"en": "10/11/2026", "points": "11.10.2026", "bars": "11/10/2026", "": "2026-10-11"}},
		{at(7, time.August, 6), map[string]string{"en": "8/6/0007", "points": "06.08.0007", "bars": "06/08/0007", "": "0007-08-06"}},
		{at(-44, time.March, 15), map[string]string{"en": "3/15/-0044", "points": "15.03.-0044", "bars": "15/03/-0044", "": "-0044-03-15"}},
		{-62_167_219_201, map[string]string{"en": "12/31/-0001", "points": "31.12.-0001", "bars": "31/12/-0001", "": "-0001-12-31"}},
		{maxTime, map[string]string{"en": "11/12/285428751", "points": "12.11.285428751", "bars": "12/11/285428751", "": "285428751-11-12"}},
		{-maxTime, map[string]string{"en": "2/20/-285424812", "points": "20.02.-285424812", "bars": "20/02/-285424812", "": "-285424812-02-20"}},
	} {
		for group, langs := range alike {
			for _, lang := range langs {
				checkFormat(t, lang, x.sec, moment.Day, x.want[group])
			}
		}
	}
}

// TestP13_2OtherStyle is of what is no style, and is the day.
func TestP13_2OtherStyle(t *testing.T) {
	for _, s := range []moment.Style{-1, -2, 3, 4, 7, 256, 257, 258, math.MaxInt, math.MinInt, math.MinInt + 1, math.MinInt + 2} {
		checkFormat(t, "en", 951_782_400, s, "2/29/2000")
		checkFormat(t, "de", 951_782_400, s, "29.02.2000")
		checkFormat(t, "es", 951_782_400, s, "29/02/2000")
		checkFormat(t, "ja", 951_782_400, s, "2000-02-29")
	}
}

func TestP13_2Time(t *testing.T) {
	english := [...]string{"12", "1", "2", "3", "4", "5", "6", "7", "8", "9", "10", "11"}
	for i := range 24 {
		half := "AM"
		if i >= 12 {
			half = "PM"
		}
		for minute, minutes := range map[int64]string{0: "00", 1: "01", 9: "09", 10: "10", 30: "30", 45: "45", 59: "59"} {
			for _, second := range []int64{0, 1, 30, 59} { // which isn't told
				sec := int64(i)*perHour + minute*60 + second
				for _, days := range []int64{0, 1, -1, 20_000, -800_000} {
					checkFormat(t, "en", sec+days*perDay, moment.Time, english[i%12]+":"+minutes+" "+half)
					for _, group := range []string{"points", "bars", ""} {
						for _, lang := range alike[group] {
							checkFormat(t, lang, sec+days*perDay, moment.Time, fmt.Sprintf("%02d", i)+":"+minutes)
						}
					}
				}
			}
		}
	}
}

func TestP13_2TimeEdges(t *testing.T) {
	for sec, want := range map[int64][2]string{
		0:                 {"12:00 AM", "00:00"},
		59:                {"12:00 AM", "00:00"},
		60:                {"12:01 AM", "00:01"},
		perHour - 1:       {"12:59 AM", "00:59"},
		perHour:           {"1:00 AM", "01:00"},
		10*perHour - 1:    {"9:59 AM", "09:59"},
		10 * perHour:      {"10:00 AM", "10:00"},
		12*perHour - 1:    {"11:59 AM", "11:59"},
		12 * perHour:      {"12:00 PM", "12:00"},
		13*perHour - 1:    {"12:59 PM", "12:59"},
		13 * perHour:      {"1:00 PM", "13:00"},
		22 * perHour:      {"10:00 PM", "22:00"},
		perDay - 1:        {"11:59 PM", "23:59"},
		-1:                {"11:59 PM", "23:59"},
		-12 * perHour:     {"12:00 PM", "12:00"},
		-12*perHour - 1:   {"11:59 AM", "11:59"},
		maxTime:           {"7:36 AM", "07:36"},
		maxTime + 1000:    {"7:36 AM", "07:36"},
		math.MaxInt64:     {"7:36 AM", "07:36"},
		-maxTime:          {"4:23 PM", "16:23"},
		-maxTime - 10_000: {"4:23 PM", "16:23"},
		math.MinInt64:     {"4:23 PM", "16:23"},
	} {
		checkFormat(t, "en", sec, moment.Time, want[0])
		for _, lang := range []string{"de", "fr", "ja", "EN", "en-US", ""} {
			checkFormat(t, lang, sec, moment.Time, want[1])
		}
	}
}

func TestP13_2Both(t *testing.T) {
	sec := at(2026, time.April, 5) + 15*perHour + 6*60 + 7
	want := map[string]string{"en": "4/5/2026, 3:06 PM", "points": "05.04.2026 15:06", "bars": "05/04/2026 15:06", "": "2026-04-05 15:06"}
	first := map[string]string{"en": "1/1/1970, 12:00 AM", "points": "01.01.1970 00:00", "bars": "01/01/1970 00:00", "": "1970-01-01 00:00"}
	ahead := map[string]string{"en": "12/31/-0001, 11:59 PM", "points": "31.12.-0001 23:59", "bars": "31/12/-0001 23:59", "": "-0001-12-31 23:59"}
	for group, langs := range alike {
		for _, lang := range langs {
			checkFormat(t, lang, sec, moment.Both, want[group])
			checkFormat(t, lang, 0, moment.Both, first[group])
			checkFormat(t, lang, -62_167_219_201, moment.Both, ahead[group])
		}
	}
}

// TestP13_2Bounds is of moments that layer 5 takes as its first and its last one.
func TestP13_2Bounds(t *testing.T) {
	for _, lang := range []string{"en", "de", "fr", "ja"} {
		for s := moment.Day; s <= moment.Both; s++ {
			last, first := moment.Format(lang, maxTime, s), moment.Format(lang, -maxTime, s)
			for _, more := range []int64{1, 60, perDay, 400 * perDay, maxTime, math.MaxInt64 - maxTime} {
				checkFormat(t, lang, maxTime+more, s, last)
				checkFormat(t, lang, -maxTime-more, s, first)
			}
			checkFormat(t, lang, math.MinInt64, s, first)
		}
	}
	checkFormat(t, "en", math.MaxInt64, moment.Both, "11/12/285428751, 7:36 AM")
	checkFormat(t, "ja", math.MinInt64, moment.Both, "-285424812-02-20 16:23")
}

// plain is the chapter's words, by the library's calendar.
func plain(lang string, sec int64, s moment.Style) string {
	m := time.Unix(sec, 0).UTC()
	year := fmt.Sprintf("%04d", m.Year())
	if m.Year() < 0 {
		year = fmt.Sprintf("-%04d", -m.Year())
	}
	clock, gap := m.Format("15:04"), " "
	var day string
	switch lang {
	case "en":
		day, clock, gap = m.Format("1/2/")+year, m.Format("3:04 PM"), ", "
	case "de", "cs", "pl", "ru":
		day = m.Format("02.01.") + year
	case "fr", "es":
		day = m.Format("02/01/") + year
	default:
		day = year + m.Format("-01-02")
	}
	return [...]string{day, clock, day + gap + clock}[s]
}

func TestP13_2AnyMoment(t *testing.T) {
	random := rand.New(rand.NewPCG(13, 2))
	var langs []string
	for _, list := range alike {
		langs = append(langs, list[:min(len(list), 4)]...)
	}
	for range 30_000 {
		sec := random.Int64N(2*maxTime+1) - maxTime
		sec /= int64(1) << random.IntN(54)
		for _, lang := range langs {
			for s := moment.Day; s <= moment.Both; s++ {
				if got, want := moment.Format(lang, sec, s), plain(lang, sec, s); got != want {
					t.Fatalf("Format(%q, %d, %d) is %q, want %q", lang, sec, s, got, want)
				}
			}
		}
	}
}

// TestP13_2EveryDay goes through more than four years day by day.
func TestP13_2EveryDay(t *testing.T) {
	for day := range int64(1600) {
		sec := at(1999, time.January, 1) + day*perDay + day*59
		for _, list := range alike {
			for _, lang := range list {
				for s := moment.Day; s <= moment.Both; s++ {
					checkFormat(t, lang, sec, s, plain(lang, sec, s))
				}
			}
		}
	}
}
