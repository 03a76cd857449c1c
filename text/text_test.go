package text_test

import (
	"bytes"
	"fmt"
	"math/rand/v2"
	"strings"
	"testing"
	"unicode/utf8"

	"polyglot/text"
)

// signBytes is how many bytes the sign has that begins b, by the table of well-formed UTF-8 in the Unicode Standard; 0: none begins there.
func signBytes(b []byte) int {
	in := func(i int, low, high byte) bool { return i < len(b) && low <= b[i] && b[i] <= high }
	more := func(from, to int) bool {
		for i := from; i < to; i++ {
			if !in(i, 0x80, 0xBF) {
				return false
			}
		}
		return true
	}
	switch {
	case in(0, 0, 0x7F):
		return 1
	case in(0, 0xC2, 0xDF) && more(1, 2):
		return 2
	case in(0, 0xE0, 0xE0) && in(1, 0xA0, 0xBF) && more(2, 3),
		in(0, 0xE1, 0xEC) && more(1, 3),
		in(0, 0xED, 0xED) && in(1, 0x80, 0x9F) && more(2, 3),
		in(0, 0xEE, 0xEF) && more(1, 3):
		return 3
	case in(0, 0xF0, 0xF0) && in(1, 0x90, 0xBF) && more(2, 4),
		in(0, 0xF1, 0xF3) && more(1, 4),
		in(0, 0xF4, 0xF4) && in(1, 0x80, 0x8F) && more(2, 4):
		return 4
	}
	return 0
}

// decoded is what Decode must tell of b, and whether b as a text is Right.
func decoded(b []byte) (string, bool) {
	var out strings.Builder
	right := true
	for i := 0; i < len(b); {
		n := signBytes(b[i:])
		switch {
		case n == 0:
			out.WriteString("\xEF\xBF\xBD")
			right = false
			n = 1
		case b[i] == '\r':
			right = false
		default:
			out.Write(b[i : i+n])
		}
		i += n
	}
	return out.String(), right
}

func checkSigns(t *testing.T, b []byte) {
	t.Helper()
	want, right := decoded(b)
	given := bytes.Clone(b)
	got := text.Decode(b)
	if got != want {
		t.Fatalf("Decode(% x) = %q, want %q", b, got, want)
	}
	if !bytes.Equal(b, given) {
		t.Fatalf("Decode changed % x to % x", given, b)
	}
	if !text.Right(got) {
		t.Fatalf("Decode(% x) = %q isn't Right", b, got)
	}
	if text.Right(string(b)) != right {
		t.Fatalf("Right(% x) = %v", b, !right)
	}
}

func TestP1_1Examples(t *testing.T) {
	for _, x := range []struct{ in, want string }{
		{"", ""},
		{"plain", "plain"},
		{"\x00\t\n\x7f", "\x00\t\n\x7f"},
		{"zwölf 漢字 😀", "zwölf 漢字 😀"},
		{"a\r\nb\rc\r\r", "a\nbc"},
		{"\r", ""},
		{"\xff", "\uFFFD"},
		{"a\x80b", "a\uFFFDb"},
		{"\xc3", "\uFFFD"},
		{"\xc3\r\xa9", "\uFFFD\uFFFD"},
		{"\xe2\x82", "\uFFFD\uFFFD"},
		{"\xe2\x82a", "\uFFFD\uFFFDa"},
		{"\xf0\x9f\x98", "\uFFFD\uFFFD\uFFFD"},
		{"\xc0\xaf", "\uFFFD\uFFFD"},
		{"\xe0\x80\xaf", "\uFFFD\uFFFD\uFFFD"},
		{"\xf0\x80\x80\xaf", "\uFFFD\uFFFD\uFFFD\uFFFD"},
		{"\xed\x9f\xbf", "\uD7FF"},
		{"\xed\xa0\x80", "\uFFFD\uFFFD\uFFFD"},
		{"\xed\xbf\xbf", "\uFFFD\uFFFD\uFFFD"},
		{"\xee\x80\x80", "\uE000"},
		{"\xf4\x8f\xbf\xbf", "\U0010FFFF"},
		{"\xf4\x90\x80\x80", "\uFFFD\uFFFD\uFFFD\uFFFD"},
		{"\xef\xbf\xbd", "\uFFFD"},
		{"\xef\xbb\xbfa", "\uFEFFa"},
	} {
		if got := text.Decode([]byte(x.in)); got != x.want {
			t.Errorf("Decode(%q) = %q, want %q", x.in, got, x.want)
		}
	}
	if text.Decode(nil) != "" {
		t.Error("Decode(nil) isn't empty")
	}
	for s, want := range map[string]bool{
		"": true, "a\nb": true, "\x00": true, "\uFFFD": true, "a\uFFFDb": true, "é漢😀": true,
		"\r": false, "a\r\nb": false, "\xff": false, "\uFFFD\xff": false, "\xff\uFFFD": false,
		"\xef\xbf": false, "\xed\xa0\x80": false, "a\xc3": false,
	} {
		if text.Right(s) != want {
			t.Errorf("Right(%q) = %v", s, !want)
		}
	}
}

func TestP1_1AllShortBytes(t *testing.T) {
	for a := range 256 {
		checkSigns(t, []byte{byte(a)})
		for b := range 256 {
			checkSigns(t, []byte{byte(a), byte(b)})
			checkSigns(t, []byte{byte(a), byte(b), 0x80})
			checkSigns(t, []byte{byte(a), byte(b), 0xBF, 0x80, '\r'})
		}
	}
}

func TestP1_1EdgeBytes(t *testing.T) {
	edges := []byte{0, '\n', '\r', 0x7F, 0x80, 0x8F, 0x90, 0x9F, 0xA0, 0xBD, 0xBF, 0xC0, 0xC1, 0xC2, 0xDF, 0xE0, 0xE1, 0xED, 0xEF, 0xF0, 0xF1, 0xF4, 0xF5, 0xFF}
	random := rand.New(rand.NewPCG(1, 1))
	for range 300_000 {
		b := make([]byte, random.IntN(9))
		for i := range b {
			b[i] = edges[random.IntN(len(edges))]
		}
		checkSigns(t, b)
	}
}

func TestP1_2Unquote(t *testing.T) {
	for _, x := range []struct {
		in, want string
		bytes    int
	}{
		{`"a\u00e9"b`, "aé", 9},
		{`""`, "", 2},
		{`"""`, "", 2},
		{`"a" "b"`, "a", 3},
		{`"a b"`, "a b", 5},
		{`"\""`, `"`, 4},
		{`"\\"`, `\`, 4},
		{`"\\""`, `\`, 4},
		{`"\\\""`, `\"`, 6},
		{`"{ $x }"`, "{ $x }", 8},
		{`"é漢😀"x`, "é漢😀", 11},
		{"\"a\tb\rc\x00\"\n", "a\tb\rc\x00", 8},
		{`"\u0041"`, "A", 8},
		{`"\u00e9\u00E9\u00Ee"`, "ééî", 20},
		{`"\u00410"`, "A0", 9},
		{`"\u000A\u000D\u0000\u0022\u005C"`, "\n\r\x00\"\\", 32},
		{`"\uD7FF\uD800\uDFFF\uE000"`, "\uD7FF\uFFFD\uFFFD\uE000", 26},
		{`"\uFFFD\uffff"`, "\uFFFD\uFFFF", 14},
		{`"\U01F600"`, "😀", 10},
		{`"\U01f600F"`, "😀F", 11},
		{`"\U000041"`, "A", 10},
		{`"\U10FFFF\U110000\UFFFFFF\U00D800"`, "\U0010FFFF\uFFFD\uFFFD\uFFFD", 34},
		{"\"a\"\n", "a", 3},
	} {
		if got, n, ok := text.Unquote(x.in); got != x.want || n != x.bytes || !ok {
			t.Errorf("Unquote(%q) = %q, %d, %v, want %q, %d", x.in, got, n, ok, x.want, x.bytes)
		}
	}
}

func TestP1_2NoText(t *testing.T) {
	for _, s := range []string{
		"", "a", `a"b"`, ` "a"`, `'a'`, `“a”`, `\"a"`,
		`"`, `"a`, `"é`, `"a\"`, `"a\\\"`, `"\`, `"a\`,
		"\"\n\"", "\"a\nb\"", "\"a\\\n\"",
		`"\n"`, `"\t"`, `"\'"`, `"\/"`, `"\ "`, `"\x41"`, `"\é"`, `"\0"`,
		`"\u"`, `"\u1"`, `"\u12"`, `"\u123"`, `"\u123g"`, `"\u123G"`, `"\uG123"`, `"\u 123"`, `"\u+123"`, `"\u-123"`, `"\u0x1"`, `"\u1_23"`, `"\u{41}"`, `"\u004é"`, `"\u123`, `"\u1234`,
		`"\u123/"`, `"\u123:"`, `"\u123@"`, "\"\\u123`\"", `"\U"`, `"\U00004"`, `"\U00004g"`, `"\U0041"`, `"\U00004`, `"\U000041`,
		`"a\u12"b"`, "\"\\u00\n41\"",
	} {
		if got, n, ok := text.Unquote(s); got != "" || n != 0 || ok {
			t.Errorf("Unquote(%q) = %q, %d, %v", s, got, n, ok)
		}
	}
}

func TestP1_2EveryNumber(t *testing.T) {
	check := func(s string, n rune) {
		t.Helper()
		want := n
		if n > 0x10FFFF || 0xD800 <= n && n <= 0xDFFF {
			want = 0xFFFD
		}
		if got, size, ok := text.Unquote(s); got != string(want) || size != len(s) || !ok {
			t.Fatalf("Unquote(%q) = %q, %d, %v", s, got, size, ok)
		}
	}
	for n := rune(0); n <= 0xFFFF; n++ {
		check(fmt.Sprintf(`"\u%04x"`, n), n)
		check(fmt.Sprintf(`"\u%04X"`, n), n)
		check(fmt.Sprintf(`"\U%06x"`, n), n)
	}
	for n := rune(0x10000); n <= 0xFFFFFF; n += 0x35 {
		check(fmt.Sprintf(`"\U%06x"`, n), n)
		check(fmt.Sprintf(`"\U%06X"`, n), n)
	}
}

func TestP1_3Quote(t *testing.T) {
	for s, want := range map[string]string{
		"":                        `""`,
		"a b":                     `"a b"`,
		`a"b`:                     `"a\"b"`,
		`a\b`:                     `"a\\b"`,
		`\"`:                      `"\\\""`,
		"\n":                      `"\u000A"`,
		"\r\t\x00\x1f":            `"\u000D\u0009\u0000\u001F"`,
		"\x1e !":                  `"\u001E !"`,
		"~\x7f\u0080\u009f\u00a0": "\"~\\u007F\u0080\u009f\u00a0\"",
		"é漢😀\u2028\uFEFF":         "\"é漢😀\u2028\uFEFF\"",
		"{ $x }'":                 `"{ $x }'"`,
		"\xff":                    "\"\uFFFD\"",
		"a\xed\xa0\x80b":          "\"a\uFFFD\uFFFD\uFFFDb\"",
		"\xc3":                    "\"\uFFFD\"",
		"\uFFFD\U0010FFFF":        "\"\uFFFD\U0010FFFF\"",
	} {
		if got := text.Quote(s); got != want {
			t.Errorf("Quote(%q) = %q, want %q", s, got, want)
		}
	}
}

func TestP1_3EverySignComesBack(t *testing.T) {
	for r := rune(0); r <= utf8.MaxRune; r++ {
		if 0xD800 <= r && r <= 0xDFFF {
			continue
		}
		s := "x" + string(r) + "0"
		quoted := text.Quote(s)
		if plain := r != '"' && r != '\\' && r >= 0x20 && r != 0x7F; plain != (quoted == `"`+s+`"`) {
			t.Fatalf("Quote(%q) = %q", s, quoted)
		}
		if got, n, ok := text.Unquote(quoted + `"y`); got != s || n != len(quoted) || !ok {
			t.Fatalf("Unquote(Quote(%q)) = %q, %d, %v", s, got, n, ok)
		}
	}
}

func TestP1_3AnyBytesComeBackDecoded(t *testing.T) {
	pieces := []string{`"`, `\`, "u", "U", "0041", "\n", "\r", "\x00", "\x7f", "é", "😀", "\xff", "\xe2\x82", " "}
	random := rand.New(rand.NewPCG(2, 2))
	for range 100_000 {
		var b strings.Builder
		for range random.IntN(10) {
			b.WriteString(pieces[random.IntN(len(pieces))])
		}
		s := b.String()
		want := string([]rune(s))
		quoted := text.Quote(s)
		if got, n, ok := text.Unquote(quoted); got != want || n != len(quoted) || !ok {
			t.Fatalf("Unquote(Quote(%q)) = %q, %d, %v", s, got, n, ok)
		}
		text.Unquote(`"` + s) // must end, whatever stands there
	}
}
