package value

import (
	"math"
	"math/rand"
	"strings"
	"testing"

	"foliot/api"
)

// P3.4.
func TestQuote(t *testing.T) {
	for s, want := range map[string]string{
		"":                   `""`,
		"a":                  `"a"`,
		" ~":                 `" ~"`,
		`"`:                  `"\""`,
		`\`:                  `"\\"`,
		`\x41`:               `"\\x41"`,
		"\x00\x1f\x7f\xff":   `"\x00\x1f\x7f\xff"`,
		"\n\t":               `"\x0a\x09"`,
		"é":                  `"\xc3\xa9"`,
		"'`[]":               "\"'`[]\"",
		"a\"b\\c\x80d":       `"a\"b\\c\x80d"`,
		string([]byte{0xab}): `"\xab"`,
	} {
		if got := Quote(s); got != want {
			t.Errorf("Quote(%q) = %s, want %s", s, got, want)
		}
	}
	for i := range 256 {
		c := byte(i)
		want := `"\x` + string("0123456789abcdef"[i>>4]) + string("0123456789abcdef"[i&15]) + `"`
		if i >= 32 && i <= 126 {
			want = `"` + string(rune(i)) + `"`
		}
		if c == '"' || c == '\\' {
			want = `"\` + string(rune(i)) + `"`
		}
		if got := Quote(string([]byte{c})); got != want {
			t.Errorf("Quote of the byte %d = %s, want %s", i, got, want)
		}
	}
	long := strings.Repeat("y", 70000)
	if Quote(long) != `"`+long+`"` {
		t.Error("Quote of a long text")
	}
}

// P3.4.
func TestPrint(t *testing.T) {
	for _, x := range []struct {
		v    api.Value
		want string
	}{
		{api.Value{}, "nil"},
		{num(0), "0"},
		{num(-1), "-1"},
		{num(math.MaxInt64), "9223372036854775807"},
		{num(math.MinInt64), "-9223372036854775808"},
		{text(""), `""`},
		{text("nil \"\xff"), `"nil \"\xff"`},
		{list(), "[]"},
		{list(num(5), text("a")), `[5 "a"]`},
		{list(list(), api.Value{}, list(list(num(-7)), text(" "))), `[[] nil [[-7] " "]]`},
	} {
		if got := Print(x.v); got != x.want {
			t.Errorf("Print = %s, want %s", got, x.want)
		}
		if got := Print(littered(x.v)); got != x.want {
			t.Errorf("Print with fields that don't count = %s, want %s", got, x.want)
		}
		if got, e := Parse(x.want); e != api.OK || !Same(got, x.v) {
			t.Errorf("Parse(%s) = %s, %v", x.want, Print(got), e)
		}
	}
}

// P3.5: what was printed is read, and no part of it, nor with anything behind it.
func TestParse(t *testing.T) {
	may := append(ordered(), text(strings.Repeat("x", 256)), text(strings.Repeat("\xff", 256)), nils(64), full(256), wide(512), nested(num(0), 8), nested(list(), 7))
	for _, v := range may {
		s := Print(v)
		if got, e := Parse(s); e != api.OK || !Same(got, v) {
			t.Errorf("Parse(%s) = %s, %v", s, Print(got), e)
		}
		for n := range s {
			if got, e := Parse(s[:n]); e == api.OK && Print(got) != s[:n] {
				t.Errorf("Parse(%s) = %s", s[:n], Print(got))
			} else if e != api.OK && e != api.ErrForm {
				t.Errorf("Parse(%s): %v", s[:n], e)
			}
		}
		for _, more := range []string{" ", "]", "x", "\"", "\n"} {
			if got, e := Parse(s + more); e != api.ErrForm || got.Kind != api.Nil {
				t.Errorf("Parse(%s%s) = %s, %v", s, more, Print(got), e)
			}
			if got, e := Parse(more + s); e != api.ErrForm || got.Kind != api.Nil {
				t.Errorf("Parse(%s%s) = %s, %v", more, s, Print(got), e)
			}
		}
	}
}

// P3.5: what a Print isn't, and which error is first.
func TestParseErrors(t *testing.T) {
	open, shut := strings.Repeat("[", 8), strings.Repeat("]", 8)
	long := Print(text(strings.Repeat("x", 257)))
	for s, want := range map[string]api.Errno{
		"": api.ErrForm, " ": api.ErrForm, "n": api.ErrForm, "ni": api.ErrForm, "Nil": api.ErrForm, "nill": api.ErrForm, "nilnil": api.ErrForm, "nil nil": api.ErrForm,
		"-": api.ErrForm, "--1": api.ErrForm, "+1": api.ErrForm, "-0": api.ErrForm, "00": api.ErrForm, "01": api.ErrForm, "-01": api.ErrForm, "1-": api.ErrForm, "1.0": api.ErrForm, "1e1": api.ErrForm, "1_0": api.ErrForm, "0x1": api.ErrForm, "5a": api.ErrForm,
		"9223372036854775808": api.ErrForm, "-9223372036854775809": api.ErrForm, "99999999999999999999999": api.ErrForm, "18446744073709551616": api.ErrForm,
		`"`: api.ErrForm, `"a`: api.ErrForm, `a"`: api.ErrForm, `"\"`: api.ErrForm, `"\`: api.ErrForm, `"\x`: api.ErrForm, `"\x0`: api.ErrForm, `"\x00`: api.ErrForm, `"a""b"`: api.ErrForm, `'a'`: api.ErrForm,
		`"\n"`: api.ErrForm, `"\a"`: api.ErrForm, `"\X00"`: api.ErrForm, `"\xFF"`: api.ErrForm, `"\x0A"`: api.ErrForm, `"\x0g"`: api.ErrForm, `"\xg0"`: api.ErrForm, `"\x 0"`: api.ErrForm, `"\x41"`: api.ErrForm, `"\x20"`: api.ErrForm, `"\x7e"`: api.ErrForm, `"\x22"`: api.ErrForm, `"\x5c"`: api.ErrForm, `"\000"`: api.ErrForm,
		"\"\n\"": api.ErrForm, "\"\x7f\"": api.ErrForm, "\"\xff\"": api.ErrForm, "\"é\"": api.ErrForm, "\"\x00\"": api.ErrForm,
		"[": api.ErrForm, "]": api.ErrForm, "[1": api.ErrForm, "[1 ": api.ErrForm, "[ ]": api.ErrForm, "[ 1]": api.ErrForm, "[1 ]": api.ErrForm, "[1  2]": api.ErrForm, "[1,2]": api.ErrForm, "[1\t2]": api.ErrForm, "[1[]]": api.ErrForm, "[[]1]": api.ErrForm, "[][]": api.ErrForm, "[[]": api.ErrForm, "[]]": api.ErrForm, `["a""b"]`: api.ErrForm, "[1 2": api.ErrForm, "{}": api.ErrForm,

		open + "[" + "]" + shut:        api.ErrDeep,
		open + "[":                     api.ErrDeep,
		open + "[x":                    api.ErrDeep,
		open + "1 [":                   api.ErrDeep,
		open + `"[" [`:                 api.ErrDeep,
		open + " [":                    api.ErrForm,
		open + "1[":                    api.ErrForm,
		open + "1  [":                  api.ErrForm,
		open + "1] [[":                 api.ErrDeep,
		"[1 01 " + open[1:] + "[":      api.ErrForm,
		"[-0 " + open[1:] + "[":        api.ErrForm,
		`["\x41" ` + open[1:] + "[":    api.ErrForm,
		"[1 10 " + open[1:] + "[":      api.ErrDeep,
		"[9223372036854775808 " + open: api.ErrForm,
		"[9223372036854775807 " + open: api.ErrDeep,
		strings.Repeat("[", 70000):     api.ErrDeep,

		long: api.ErrLong, "[" + long + "]": api.ErrLong, Print(nils(65)): api.ErrLong, Print(full(257)): api.ErrLong, Print(wide(513)): api.ErrLong, Print(nils(5000)): api.ErrLong,
		long + " ": api.ErrForm, "[" + long: api.ErrForm, Print(nils(65)) + "]": api.ErrForm, Print(nils(65))[:200]: api.ErrForm, Print(wide(513)) + "x": api.ErrForm,
		"[" + long + " " + open: api.ErrDeep,
	} {
		if v, e := Parse(s); e != want || v.Kind != 0 || v.N != 0 || v.S != "" || v.List != nil {
			t.Errorf("Parse(%.60q) = %+v, %v, want %v", s, v, e, want)
		}
	}
	if v, e := Parse(open + `"[[" 5` + shut); e != api.OK || !Same(v, nested(list(text("[["), num(5)), 7)) {
		t.Errorf("Parse of a text with [ in eight lists: %s, %v", Print(v), e)
	}
}

// P3.5: of all short texts those alone are read that are a value's Print.
func TestParseAll(t *testing.T) {
	tried, read := 0, 0
	var try func(s string, most int, alphabet []string)
	try = func(s string, most int, alphabet []string) {
		tried++
		v, e := Parse(s)
		if e == api.OK {
			read++
			if Print(v) != s {
				t.Errorf("Parse(%s) = %s", s, Print(v))
			}
		} else if e != api.ErrForm || v.Kind != api.Nil {
			t.Errorf("Parse(%s) = %s, %v", s, Print(v), e)
		}
		if most > 0 {
			for _, c := range alphabet {
				try(s+c, most-1, alphabet)
			}
		}
	}
	try("", 6, []string{"[", "]", " ", "0", "1", "-", "nil"})
	try("", 5, []string{`"`, `\`, "x", "0", "7", "f", "F", "\xff", "["})
	if read < 400 || read == tried {
		t.Errorf("%d of %d were read", read, tried)
	}
}

// P1, P3.4, P3.5: a Print that is changed somewhere is another value's Print, or none.
func TestParseAny(t *testing.T) {
	all := ordered()
	for seed := range 20000 {
		rnd := rand.New(rand.NewSource(int64(seed)))
		b := []byte(Print(list(all[rnd.Intn(len(all))], all[rnd.Intn(len(all))])))
		b[rnd.Intn(len(b))] = byte(rnd.Intn(256))
		v, e := Parse(string(b))
		if e == api.OK && Print(v) != string(b) {
			t.Errorf("Parse(%s) = %s", b, Print(v))
		}
	}
}
