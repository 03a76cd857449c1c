package date_test

import (
	"math"
	"math/rand/v2"
	"testing"
	"time"

	"polyglot/date"
)

const (
	perDay  = 86400
	maxTime = 1 << 53
)

// civil is what From must tell, by the library's calendar.
func civil(sec int64) date.Civil {
	m := time.Unix(sec, 0).UTC()
	return date.Civil{
		Year: m.Year(), Month: int(m.Month()), Day: m.Day(),
		Hour: m.Hour(), Minute: m.Minute(), Second: m.Second(),
		Weekday: int(m.Weekday()),
	}
}

func checkMoment(t *testing.T, sec int64, want date.Civil) {
	t.Helper()
	c := date.From(sec)
	if c != want {
		t.Fatalf("From(%d) = %+v, want %+v", sec, c, want)
	}
	for _, weekday := range [...]int{c.Weekday, 0, 6, 7, -1, math.MaxInt, math.MinInt} {
		c.Weekday = weekday
		if got := date.To(c); got != sec {
			t.Fatalf("To(%+v) = %d, want %d", c, got, sec)
		}
	}
}

func TestP5_1Leap(t *testing.T) {
	for year, want := range map[int]bool{
		0: true, 1: false, 2: false, 3: false, 4: true, -1: false, -2: false, -3: false, -4: true,
		100: false, -100: false, 200: false, 300: false, 400: true, -400: true, -200: false, 96: true, 104: true,
		1600: true, 1700: false, 1800: false, 1900: false, 1970: false, 1972: true, 2000: true, 2023: false, 2024: true, 2100: false, 2400: true,
		285_428_751: false, 285_428_400: true, -285_424_812: true, -285_424_700: false, math.MaxInt: false, math.MaxInt - 3: true, math.MinInt: true, math.MinInt + 1: false,
	} {
		if date.Leap(year) != want {
			t.Errorf("Leap(%d) is %v", year, !want)
		}
	}
}

func TestP5_1Days(t *testing.T) {
	months := [...]int{31, 28, 31, 30, 31, 30, 31, 31, 30, 31, 30, 31}
	for year := -1000; year <= 3000; year++ {
		for i, want := range months {
			if i == 1 && (year%4 == 0 && year%100 != 0 || year%400 == 0) {
				want = 29
			}
			if got := date.Days(year, i+1); got != want {
				t.Errorf("Days(%d, %d) = %d, want %d", year, i+1, got, want)
			}
		}
	}
	for _, year := range [...]int{0, 1, 2000, -4, math.MaxInt, math.MinInt} {
		for _, month := range [...]int{0, 13, 14, 24, -1, -2, -12, math.MaxInt, math.MinInt} {
			if got := date.Days(year, month); got != 0 {
				t.Errorf("Days(%d, %d) = %d", year, month, got)
			}
		}
	}
}

func TestP5_1P5_2Moments(t *testing.T) {
	for sec, want := range map[int64]date.Civil{
		0:                  {1970, 1, 1, 0, 0, 0, 4},
		1:                  {1970, 1, 1, 0, 0, 1, 4},
		59:                 {1970, 1, 1, 0, 0, 59, 4},
		60:                 {1970, 1, 1, 0, 1, 0, 4},
		3599:               {1970, 1, 1, 0, 59, 59, 4},
		3600:               {1970, 1, 1, 1, 0, 0, 4},
		perDay - 1:         {1970, 1, 1, 23, 59, 59, 4},
		perDay:             {1970, 1, 2, 0, 0, 0, 5},
		-1:                 {1969, 12, 31, 23, 59, 59, 3},
		-perDay:            {1969, 12, 31, 0, 0, 0, 3},
		-perDay - 1:        {1969, 12, 30, 23, 59, 59, 2},
		-4 * perDay:        {1969, 12, 28, 0, 0, 0, 0},
		-5 * perDay:        {1969, 12, 27, 0, 0, 0, 6},
		951_782_399:        {2000, 2, 28, 23, 59, 59, 1},
		951_782_400:        {2000, 2, 29, 0, 0, 0, 2},
		951_868_800:        {2000, 3, 1, 0, 0, 0, 3},
		978_307_199:        {2000, 12, 31, 23, 59, 59, 0},
		4_107_542_399:      {2100, 2, 28, 23, 59, 59, 0},
		4_107_542_400:      {2100, 3, 1, 0, 0, 0, 1},
		-12_219_292_800:    {1582, 10, 15, 0, 0, 0, 5},
		-12_219_292_801:    {1582, 10, 14, 23, 59, 59, 4}, // the calendar goes on ahead of its beginning
		-62_135_596_800:    {1, 1, 1, 0, 0, 0, 1},
		-62_135_596_801:    {0, 12, 31, 23, 59, 59, 0},
		-62_162_121_600:    {0, 2, 29, 0, 0, 0, 2},
		-62_167_219_200:    {0, 1, 1, 0, 0, 0, 6},
		-62_167_219_201:    {-1, 12, 31, 23, 59, 59, 5},
		-62_198_755_200:    {-1, 1, 1, 0, 0, 0, 5},
		-62_198_755_201:    {-2, 12, 31, 23, 59, 59, 4},
		-74_784_816_000:    {-400, 3, 1, 0, 0, 0, 3},
		-74_784_816_001:    {-400, 2, 29, 23, 59, 59, 2},
		maxTime:            {285_428_751, 11, 12, 7, 36, 32, 1},
		-maxTime:           {-285_424_812, 2, 20, 16, 23, 28, 6},
		253_402_300_799:    {9999, 12, 31, 23, 59, 59, 5},
		math.MaxInt32:      {2038, 1, 19, 3, 14, 7, 2},
		math.MinInt32:      {1901, 12, 13, 20, 45, 52, 5},
		math.MaxUint32 + 1: {2106, 2, 7, 6, 28, 16, 0},
	} {
		checkMoment(t, sec, want)
	}
}

// The calendar is gone through day by day, as the chapter's words have it.
func TestP5_1P5_2EveryDay(t *testing.T) {
	days := -719528 // of the first day of the year 0
	weekday := 6
	for year := range 1200 {
		for month := 1; month <= 12; month++ {
			for day := 1; day <= date.Days(year, month); day++ {
				last := date.Civil{Year: year, Month: month, Day: day, Hour: 23, Minute: 59, Second: 59, Weekday: weekday}
				checkMoment(t, int64(days)*perDay, date.Civil{Year: year, Month: month, Day: day, Weekday: weekday})
				checkMoment(t, int64(days)*perDay+perDay-1, last)
				days++
				weekday = (weekday + 1) % 7
			}
		}
	}
	if days != -719528+3*146097 {
		t.Errorf("%d days", days)
	}
}

func TestP5_1P5_2EveryYearsEdges(t *testing.T) {
	random := rand.New(rand.NewPCG(5, 1))
	years := make([]int, 0, 120_000)
	for year := -20_000; year < 20_000; year++ {
		years = append(years, year)
	}
	for range 80_000 {
		years = append(years, random.IntN(570_000_000)-285_000_000)
	}
	for _, year := range years {
		for _, month := range [...]time.Month{time.January, time.March} {
			sec := time.Date(year, month, 1, 0, 0, 0, 0, time.UTC).Unix()
			for _, off := range [...]int64{-perDay, -1, 0, perDay - 1, perDay} {
				checkMoment(t, sec+off, civil(sec+off))
			}
		}
	}
}

func TestP5_1P5_2AnyMoment(t *testing.T) {
	random := rand.New(rand.NewPCG(5, 2))
	for range 300_000 {
		sec := random.Int64N(2*maxTime+1) - maxTime
		sec /= int64(1) << random.IntN(54)
		checkMoment(t, sec, civil(sec))
	}
	for sec := int64(-2 * perDay); sec <= 2*perDay; sec++ {
		checkMoment(t, sec, civil(sec))
	}
	for off := range int64(2 * perDay) {
		checkMoment(t, maxTime-off, civil(maxTime-off))
		checkMoment(t, off-maxTime, civil(off-maxTime))
	}
}

func TestP5_1Bounds(t *testing.T) {
	last, first := civil(maxTime), civil(-maxTime)
	for _, more := range [...]int64{1, 2, perDay, maxTime, math.MaxInt64 - maxTime} {
		if got := date.From(maxTime + more); got != last {
			t.Errorf("From(%d) = %+v, want %+v", maxTime+more, got, last)
		}
		if got := date.From(-maxTime - more); got != first {
			t.Errorf("From(%d) = %+v, want %+v", -maxTime-more, got, first)
		}
	}
	if got := date.From(math.MinInt64); got != first {
		t.Errorf("From(%d) = %+v, want %+v", int64(math.MinInt64), got, first)
	}
	if date.From(maxTime-1) == last || date.From(1-maxTime) == first {
		t.Error("moments within the bounds count as the bounds")
	}
}

// What is no moment has no promise but that the call ends.
func TestP5_2EndsAtAnyCivil(t *testing.T) {
	edges := [...]int{math.MinInt, math.MinInt + 1, -1 << 33, -13, -1, 0, 1, 2, 12, 13, 1 << 33, math.MaxInt - 1, math.MaxInt}
	random := rand.New(rand.NewPCG(5, 3))
	edge := func() int { return edges[random.IntN(len(edges))] }
	for range 100_000 {
		date.To(date.Civil{Year: edge(), Month: edge(), Day: edge(), Hour: edge(), Minute: edge(), Second: edge(), Weekday: edge()})
	}
}
