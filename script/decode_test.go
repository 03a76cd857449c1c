package script_test

import (
	"slices"
	"strconv"
	"strings"
	"testing"

	"polyglot/api"
	"polyglot/script"
	"polyglot/value"
)

// noSteps is bytes that begin with no step's, whatever stands behind them.
func noSteps() []string {
	return []string{
		"x", ":", ",", " ", "\n", "\x00", "\xff", "0", "1", "1:", "1:c", "1:x,", "0:,", "c", "c,", "1c,", "1;c,", "a:c,",
		"1:d,2:en,1:0,", "1:A,0:,1:0,0:,", "1:C,0:,1:0,", "1:Q,0:,0:,1:0,", "2:ac,0:,1:0,0:,", "2:cq,0:,1:0,", "3:acq,0:,1:0,", "0:,2:en,1:0,", "1:0,0:,1:0,0:,", "1:1,0:,1:0,",
		"01:c,2:en,1:0,", "1:c,02:en,1:0,", "1:c,2:en,01:0,", "+1:c,2:en,1:0,", "-1:c,2:en,1:0,", "1:c,2:en,+1:0,", " 1:c,2:en,1:0,", "1 :c,2:en,1:0,", "1: c,2:en,1:0,", "00:,", "-0:,",
		"1:c,:,1:0,", "1:c,,1:0,", "1:c,00:,1:0,", "1:c,-0:,1:0,", "1:c,+0:,1:0,", "1:c,x:,1:0,", "1:c, :,1:0,", "1:c,262145:,1:0,", "1:c,18446744073709551616:,1:0,", "1:q,0:,:,1:0,", "1:a,0:,1:0,:,", "1:c,0:,1:1,:,", "1:q,0:,0:,1:1,0:,1:t,:,",
		"1:c,:en,1:0,", "1:c,x:en,1:0,", "1:c,2en,1:0,", "1:c,2;en,1:0,", "1:c,1:en,1:0,", "1:c,3:en,1:0,", "1:c,2:en;1:0,", "1:c,2:en1:0,", "1:c,2:en:1:0,", "1:c;2:en,1:0,", "1:c,2:en,1:0;", "1:c,2:en,1:0:", "1:c,2:en,1:0x",
		"1:c,2:en,2:01,2:de,", "1:c,2:en,2:00,", "1:c,2:en,2:+0,", "1:c,2:en,2:-0,", "1:c,2:en,2:-1,", "1:c,2:en,0:,", "1:c,2:en,1:x,", "1:c,2:en,1: ,", "1:c,2:en,3:1.0,", "1:c,2:en,2:0\n,", "1:c,2:en,2:\xc2\xb2,",
		"1:c,2:en,1:1,x", "1:c,2:en,1:1,2:de", "1:c,2:en,1:1,2:de;", "1:c,2:en,1:2,2:de,x",
		"1:c,2:en,6:262144,2:de,x", "1:c,2:en,6:262145,2:de,x", "1:c,2:en,20:18446744073709551616,x", "1:c,2:en,20:18446744073709551617,2:de,x",
		"262144:c,", "262145:c,", "18446744073709551617:c,2:en,1:0,", "4294967297:c,2:en,1:0,", "1:c,18446744073709551618:en,1:0,",
		"1:a,2:en,1:2,0:,", "1:a,2:en,0:,0:,", "1:a,2:en,2:01,0:,", "1:a,2:en,2:10,0:,", "1:a,2:en,2:00,0:,", "1:a,2:en,4:true,0:,", "1:a,2:en,1:t,0:,", "1:a,2:en,1: ,0:,", "1:a,2:en,1:1,x", "1:a,2:en,1:1,1:ab", "1:a,2:en,5:a = 1,1:0,",
		"1:q,1:a,0:,0:,", "1:q,1:a,0:,1:x,", "1:q,1:a,0:,2:00,", "1:q,1:a,0:,1:1,x", "1:q,1:a,1:0,x", "1:q,1:a,1:1,1:x,1:t,1:1,",
		"1:q,1:a,0:,1:1,1:x,0:,1:z,", "1:q,1:a,0:,1:1,1:x,1:x,1:z,", "1:q,1:a,0:,1:1,1:x,1:T,1:z,", "1:q,1:a,0:,1:1,1:x,2:tn,1:1,", "1:q,1:a,0:,1:1,1:x,2:nm,1:1,", "1:q,1:a,0:,1:1,1:x,3:tnm,1:1,", "1:q,1:a,0:,1:1,1:x,1:0,1:1,", "1:q,1:a,0:,1:1,1:x,1:a,1:1,",
		"1:q,1:a,0:,1:1,1:x,1:n,1:z,", "1:q,1:a,0:,1:1,1:x,1:n,0:,", "1:q,1:a,0:,1:1,1:x,1:n,2:1.,", "1:q,1:a,0:,1:1,1:x,1:n,41:" + strings.Repeat("9", 41) + ",",
		"1:q,1:a,0:,1:1,1:x,1:m,2:-0,", "1:q,1:a,0:,1:1,1:x,1:m,0:,", "1:q,1:a,0:,1:1,1:x,1:m,2:00,", "1:q,1:a,0:,1:1,1:x,1:m,2:+1,", "1:q,1:a,0:,1:1,1:x,1:m,16:9007199254740993,", "1:q,1:a,0:,1:1,1:x,1:m,17:-9007199254740993,",
		"1:q,1:a,0:,1:2,1:x,1:n,1:z,1:x,1:n,1:1,", "1:q,1:a,0:,1:2,1:x,1:n,1:1,1:x,1:n,1:z,", "1:q,1:a,0:,1:2,1:x,1:n,1:1,x", "1:q,1:a,0:,1:1,1:x,1:n,x",
	}
}

// written is some steps of all kinds, and their bytes, each by itself.
func written(t *testing.T) ([]script.Step, []string) {
	t.Helper()
	list := []script.Step{
		add("en", "a = { $x }", true), choose("en", "de", ""), ask("a", "k", str("x", "1"), num("x", "1234.50"), moment("t", "-5")),
		add("", "", false), choose(""), ask("", ""), choose("zh-Hant", "10", ":,"),
	}
	var out []string
	for _, s := range list {
		b, err := script.Encode([]script.Step{s})
		if err != api.OK {
			t.Fatalf("Encode tells %d", err)
		}
		out = append(out, string(b))
	}
	return list, out
}

func TestP18_3DecodeOfNoSteps(t *testing.T) {
	list, bytes := written(t)
	ahead := strings.Join(bytes, "")
	for _, s := range noSteps() {
		checkDecode(t, s, 0, api.ErrForm)
		checkDecode(t, s+bytes[0], 0, api.ErrForm)
		checkDecode(t, ahead+s, len(ahead), api.ErrForm, list...)
		checkDecode(t, ahead+s+ahead, len(ahead), api.ErrForm, list...)
		checkDecode(t, bytes[1]+s+ahead, len(bytes[1]), api.ErrForm, list[1])
	}
}

func TestP18_3DecodeOfNothing(t *testing.T) {
	checkDecode(t, "", 0, api.OK)
	if list, at, err := script.Decode(nil); len(list) != 0 || at != 0 || err != api.OK {
		t.Errorf("Decode of nil = %+v, %d, %d", list, at, err)
	}
}

// TestP18_3DecodeCut is of bytes that end anywhere.
func TestP18_3DecodeCut(t *testing.T) {
	list, bytes := written(t)
	all := strings.Join(bytes, "")
	ends := map[int]int{0: 0} // of how many bytes there are how many whole steps
	end := 0
	for i, b := range bytes {
		end += len(b)
		ends[end] = i + 1
	}
	whole, at := 0, 0
	for n := range len(all) + 1 {
		if k, ok := ends[n]; ok {
			whole, at = k, n
			checkDecode(t, all[:n], n, api.OK, list[:whole]...)
		} else {
			checkDecode(t, all[:n], at, api.ErrForm, list[:whole]...)
		}
	}
}

func TestP18_3DecodeMany(t *testing.T) {
	one := "1:c,0:,1:0,"
	most, list := strings.Repeat(one, api.MaxSteps), slices.Repeat([]script.Step{choose("")}, api.MaxSteps)
	checkDecode(t, most, len(most), api.OK, list...)
	checkDecode(t, most[len(one):], len(most)-len(one), api.OK, list[1:]...)
	for _, more := range []string{one, one + one, one + "x", "1:q,0:,0:,1:0,", "1:a,0:,1:1,1:?,", most} {
		checkDecode(t, most+more, len(most), api.ErrMany, list...)
	}
	for _, none := range append(noSteps(), one[:len(one)-1]) { // what is no step isn't one too many
		checkDecode(t, most+none, len(most), api.ErrForm, list...)
	}
}

func TestP18_3DecodeMaxBytes(t *testing.T) {
	long := strings.Repeat("x", 262_123)
	full := "1:a,2:en,1:0,262123:" + long + ","
	if len(full) != api.MaxBytes {
		t.Fatalf("%d bytes", len(full))
	}
	checkDecode(t, full, len(full), api.OK, add("en", long, false))
	checkDecode(t, full+"x", 0, api.ErrMany)
	checkDecode(t, "1:a,2:en,1:0,262124:"+long+",", 0, api.ErrForm) // one byte less than it says
	one := "1:c,0:,1:0,"
	for _, n := range []int{api.MaxBytes - 1, api.MaxBytes} {
		for _, s := range []string{"x", "1", "0", ":", ",", "1:"} {
			checkDecode(t, strings.Repeat(s, n)[:n], 0, api.ErrForm)
		}
		checkDecode(t, one+strings.Repeat("?", n-len(one)), len(one), api.ErrForm, choose(""))
	}
	for _, n := range []int{api.MaxBytes + 1, 2 * api.MaxBytes} { // whatever they are
		for _, s := range []string{"x", "1", "0", ":", ",", "1:", one} {
			checkDecode(t, strings.Repeat(s, n)[:n], 0, api.ErrMany)
		}
		checkDecode(t, one+strings.Repeat("?", n-len(one)), 0, api.ErrMany)
	}
}

// TestP18_3DecodeCounts is of counts of which there is less than they say.
func TestP18_3DecodeCounts(t *testing.T) {
	for _, n := range []int{2, 9, 10, 100, 99_999, api.MaxBytes, api.MaxBytes + 1} {
		digits := strconv.Itoa(n)
		count := strconv.Itoa(len(digits)) + ":" + digits + ","
		have := min(n-1, 10_000)
		checkDecode(t, "1:c,0:,"+count+strings.Repeat("0:,", have), 0, api.ErrForm)
		checkDecode(t, "1:q,0:,0:,"+count+strings.Repeat("0:,1:t,0:,", have), 0, api.ErrForm)
		checkDecode(t, "1:c,0:,1:0,1:c,"+digits+":"+strings.Repeat("x", have)+",1:0,", 11, api.ErrForm, choose(""))
	}
	checkDecode(t, "1:c,0:,1:1,0:,0:,", 14, api.ErrForm, choose("", "")) // and of one of which there is more
	checkDecode(t, "1:q,0:,0:,1:1,0:,1:t,0:,0:,1:t,0:,", 24, api.ErrForm, ask("", "", script.Arg{}))
}

// TestP18HandedIn is of what is handed in, and turned later on.
func TestP18HandedIn(t *testing.T) {
	list, bytes := written(t)
	all := strings.Join(bytes, "")
	b := []byte(all)
	got, _, _ := script.Decode(b)
	if string(b) != all {
		t.Errorf("Decode made %q of what was handed in", b)
	}
	for i := range b {
		b[i] = 'x'
	}
	if !slices.EqualFunc(got, list, same) {
		t.Errorf("what was told came to be %q", steps(got))
	}
	kept := steps(list)
	out, _ := script.Encode(list)
	if steps(list) != kept {
		t.Errorf("Encode made %q of what was handed in", steps(list))
	}
	list[1].Wishes[0], list[2].Args[0].Text = "xx", "2"
	if string(out) != all {
		t.Errorf("what was told came to be %q", out)
	}
}

// TestP18Answers is of answers that are turned by whoever has them.
func TestP18Answers(t *testing.T) {
	list := []script.Step{choose("en", "a", "b", "c"), choose("en", "d"), ask("a", "", str("x", "1"), str("y", "2"), str("z", "3")), ask("b", "", str("x", "4"))}
	b, _ := script.Encode(list)
	got, _, _ := script.Decode(b)
	for i, s := range got {
		kept := steps(append(slices.Clone(got[:i]), got[i+1:]...))
		_ = append(s.Wishes, "more", "more")
		_ = append(s.Args, script.Arg{Name: "more", Kind: value.Moment}, script.Arg{})
		clear(s.Wishes)
		clear(s.Args)
		if now := steps(append(slices.Clone(got[:i]), got[i+1:]...)); now != kept {
			t.Errorf("the others came to be %q", now)
		}
	}
	checkDecode(t, string(b), len(b), api.OK, list...)
	out, _ := script.Encode(list)
	clear(out)
	checkEncode(t, string(b), list...)
}
