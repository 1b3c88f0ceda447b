package asm

import (
	"math/rand"
	"reflect"
	"strconv"
	"strings"
	"testing"

	"foliot/api"
	"foliot/image"
)

// refuse: is a text refused so, with the zero image?
func refuse(t *testing.T, s string, want Fault) {
	t.Helper()
	if p, f := Parse(s); f != want || !reflect.DeepEqual(p, api.Image{}) {
		t.Errorf("Parse of %.300q: %+v, want %+v", s, f, want)
	}
}

// accept: is a text read, as so many instructions?
func accept(t *testing.T, s string, size int) {
	t.Helper()
	if p, f := Parse(s); f != (Fault{}) || len(p.Code) != size {
		t.Errorf("Parse of %.300q: %d instructions, %+v", s, len(p.Code), f)
	}
}

// P12.2: the whole text.
func TestParseText(t *testing.T) {
	filler := strings.Repeat(`  push "`+strings.Repeat("x", 256)+"\"\n", 246)
	rest := MaxText - len(filler) - len("  nop\n")
	long := filler + `  push "` + strings.Repeat("y", rest-len("  push \"\"\n")) + "\"\n  nop\n"
	if len(long) != MaxText {
		t.Fatalf("%d bytes", len(long))
	}
	accept(t, long, 248)
	refuse(t, long+"\n", Fault{0, api.ErrLong})
	refuse(t, "x"+long, Fault{0, api.ErrLong})
	refuse(t, strings.Repeat("x", MaxText+1), Fault{0, api.ErrLong})
	refuse(t, strings.Repeat("x", MaxText), Fault{0, api.ErrForm})
	for _, s := range []string{"", "x", "  nop", "a:", "\n  nop", "a:\na:\n  nop", "  bad\n ", "\n\x00"} {
		refuse(t, s, Fault{0, api.ErrForm})
	}
}

// P12.1, P12.2: one line, in the second place, with an instruction behind it.
func TestParseLine(t *testing.T) {
	long := strings.Repeat("x", 257)
	for line, want := range map[string]api.Errno{
		"": api.ErrForm, " ": api.ErrForm, " nop": api.ErrForm, "nop": api.ErrForm, "\t\tnop": api.ErrForm, "\tnop": api.ErrForm, "# remark": api.ErrForm,
		"  ": api.ErrOp, "   ": api.ErrOp, "   nop": api.ErrOp, "  \tnop": api.ErrOp, "  nop\r": api.ErrOp, "  Nop": api.ErrOp, "  NOP": api.ErrOp, "  nop:": api.ErrOp, "  nops": api.ErrOp, "  ops": api.ErrOp, "  no": api.ErrOp, "  l1:": api.ErrOp, "  nop\t": api.ErrOp, "  nop\x00": api.ErrOp, "  push\t5": api.ErrOp, "  x 5": api.ErrOp,

		"  nop": api.OK, "  cat": api.OK, "  nop ": api.ErrForm, "  nop 0": api.ErrForm, "  nop  ": api.ErrForm, "  return 5": api.ErrForm, "  wait x": api.ErrForm, "  cat \"\"": api.ErrForm,
		"  push": api.ErrForm, "  jump": api.ErrForm, "  unless": api.ErrForm, "  load": api.ErrForm, "  store": api.ErrForm, "  call": api.ErrForm, "  signal": api.ErrForm, "  poll": api.ErrForm, "  fail": api.ErrForm, "  either": api.ErrForm, "  pack": api.ErrForm,

		"  push 5": api.OK, "  push -5": api.OK, "  push nil": api.OK, "  push \"\"": api.OK, "  push \" \"": api.OK, "  push [1 [2 \"a b\"] nil]": api.OK, "  push \"" + long[1:] + "\"": api.OK, "  push [[[[[[[[]]]]]]]]": api.OK,
		"  push ": api.ErrForm, "  push  5": api.ErrForm, "  push 5 ": api.ErrForm, "  push 5 6": api.ErrForm, "  push 05": api.ErrForm, "  push -0": api.ErrForm, "  push x": api.ErrForm, "  push \"a": api.ErrForm, "  push \"\\n\"": api.ErrForm, "  push [1  2]": api.ErrForm, "  push 9223372036854775808": api.ErrForm,
		"  push [[[[[[[[[]]]]]]]]]": api.ErrDeep, "  push [[[[[[[[[": api.ErrDeep, "  push \"" + long + "\"": api.ErrLong, "  push [" + strings.Repeat("1 ", 64) + "1]": api.ErrLong,

		"  signal \"\"": api.OK, "  signal \"go on\"": api.OK, "  call \"\\x00\\\"\\\\\"": api.OK, "  either \"" + long[:64] + "\"": api.OK,
		"  signal ": api.ErrForm, "  signal go": api.ErrForm, "  signal 5": api.ErrForm, "  signal nil": api.ErrForm, "  signal []": api.ErrForm, "  signal [\"go\"]": api.ErrForm, "  signal \"go\" ": api.ErrForm, "  signal  \"go\"": api.ErrForm, "  signal \"go": api.ErrForm, "  signal 'go'": api.ErrForm, "  call \"a\" \"b\"": api.ErrForm, "  fail \"\\x41\"": api.ErrForm, "  poll \"\xff\"": api.ErrForm, "  either \"" + long + "\"": api.ErrForm, "  poll [[[[[[[[[": api.ErrForm,

		"  load 0": api.OK, "  load 9": api.OK, "  store 10": api.OK, "  store 15": api.OK, "  pack 0": api.OK, "  pack 16": api.OK,
		"  load ": api.ErrForm, "  load  0": api.ErrForm, "  load 0 ": api.ErrForm, "  load 00": api.ErrForm, "  load 01": api.ErrForm, "  load -0": api.ErrForm, "  load -1": api.ErrForm, "  load +1": api.ErrForm, "  load 100": api.ErrForm, "  load 1_0": api.ErrForm, "  load 0x1": api.ErrForm, "  load a": api.ErrForm, "  load \"1\"": api.ErrForm, "  load 1 2": api.ErrForm, "  store 001": api.ErrForm, "  store 99999999999999999999": api.ErrForm, "  load \xd9\xa1": api.ErrForm,
		"  pack ": api.ErrForm, "  pack 00": api.ErrForm, "  pack 05": api.ErrForm, "  pack -1": api.ErrForm, "  pack 100": api.ErrForm, "  pack x": api.ErrForm, "  pack 1.": api.ErrForm,

		"  jump end": api.OK, "  unless end": api.OK, "  jump one": api.OK,
		"  jump ": api.ErrForm, "  jump  end": api.ErrForm, "  jump end ": api.ErrForm, "  jump end:": api.ErrForm, "  jump 1": api.ErrForm, "  jump 1a": api.ErrForm, "  jump End": api.ErrForm, "  jump enD": api.ErrForm, "  jump \"end\"": api.ErrForm, "  jump e_d": api.ErrForm, "  jump end end": api.ErrForm, "  unless abcdefghijklmnopq": api.ErrForm, "  jump \xc3\xa9": api.ErrForm, "  jump e\x00": api.ErrForm,
		"  jump e": api.ErrLabel, "  jump end1": api.ErrLabel, "  unless abcdefghijklmnop": api.ErrLabel, "  jump nop": api.ErrLabel,
	} {
		s := lines("one:", line, "end:", "  nop")
		if want != api.OK {
			refuse(t, s, Fault{2, want})
			continue
		}
		accept(t, s, 2)
	}
}

// P12.1, P12.2: labels.
func TestParseLabels(t *testing.T) {
	for label, want := range map[string]api.Errno{
		"a:": api.OK, "z:": api.OK, "l1:": api.OK, "a0z9:": api.OK, "nop:": api.OK, "push:": api.OK, "abcdefghijklmnop:": api.OK, "a234567890123456:": api.OK,
		":": api.ErrForm, "a": api.ErrForm, "1:": api.ErrForm, "1a:": api.ErrForm, "A:": api.ErrForm, "aB:": api.ErrForm, "a::": api.ErrForm, "a: ": api.ErrForm, " a:": api.ErrForm, "a :": api.ErrForm, "a:b": api.ErrForm, "a: nop": api.ErrForm, "a_b:": api.ErrForm, "a-b:": api.ErrForm, "abcdefghijklmnopq:": api.ErrForm, "a:\r": api.ErrForm, "\xc3\xa9:": api.ErrForm, "a`:": api.ErrForm, "a{:": api.ErrForm, "a/:": api.ErrForm, "`:": api.ErrForm, "{:": api.ErrForm, "a\x00:": api.ErrForm,
		"  a:": api.ErrOp, "here:": api.ErrTwice,
	} {
		s := lines("here:", "  nop", label, "  nop")
		if want != api.OK {
			refuse(t, s, Fault{3, want})
			continue
		}
		name := strings.TrimSuffix(label, ":")
		accept(t, s, 2)
		p, f := Parse(s + "  jump " + name + "\n  unless here\n")
		if f != (Fault{}) || p.Code[2] != (api.Instr{Op: image.Jump, A: 1}) || p.Code[3] != (api.Instr{Op: image.Unless}) {
			t.Errorf("the label %q: %+v, %+v", label, p, f)
		}
	}
}

// P12.1, P12.2: for which instruction a label stands.
func TestParseTargets(t *testing.T) {
	for _, x := range []struct {
		s    string
		want Fault
		code []api.Instr
	}{
		{lines("a:", "b:", "  nop", "  jump a", "  jump b"), Fault{}, []api.Instr{{}, {Op: image.Jump}, {Op: image.Jump}}},
		{lines("  jump a", "  nop", "a:", "  nop"), Fault{}, []api.Instr{{Op: image.Jump, A: 2}, {}, {}}},
		{lines("  nop", "a:", "  jump a"), Fault{}, []api.Instr{{}, {Op: image.Jump, A: 1}}},
		{lines("  nop", "a:", "b:", "c:"), Fault{}, []api.Instr{{}}},
		{lines("  nop", "a:", "  unless b", "b:", "  unless a"), Fault{}, []api.Instr{{}, {Op: image.Unless, A: 2}, {Op: image.Unless, A: 1}}},
		{lines("  jump a", "a:"), Fault{1, api.ErrLabel}, nil},
		{lines("  nop", "  unless a", "b:", "a:"), Fault{2, api.ErrLabel}, nil},
		{lines("b:", "  jump b", "  jump a", "  jump c"), Fault{3, api.ErrLabel}, nil},
		{lines("a:", "  nop", "  jump b", "b:", "  jump c", "c:"), Fault{5, api.ErrLabel}, nil},
		{lines("  jump end", "  jump none", "end:"), Fault{1, api.ErrLabel}, nil},
		{lines("  jump none", "  jump end", "end:"), Fault{1, api.ErrLabel}, nil},
	} {
		if x.want != (Fault{}) {
			refuse(t, x.s, x.want)
			continue
		}
		if p, f := Parse(x.s); f != (Fault{}) || !alike(p, api.Image{Code: x.code}) {
			t.Errorf("Parse of %q: %+v, %+v", x.s, p, f)
		}
	}
}

// P12.2: of several faults that of the first line is told, then those of labels, then layer 11's.
func TestParseOrder(t *testing.T) {
	for _, x := range []struct {
		want Fault
		l    []string
	}{
		{Fault{3, api.ErrOp}, []string{"a:", "  nop", "  bad", "a:", "nop", "  push", "  push x"}},
		{Fault{3, api.ErrTwice}, []string{"a:", "  nop", "a:", "  bad"}},
		{Fault{2, api.ErrForm}, []string{"  nop", "nop", "  bad"}},
		{Fault{2, api.ErrForm}, []string{"  jump none", "  push", "  bad"}},
		{Fault{4, api.ErrForm}, []string{"  jump none", "  load 99", "  nop", "  push ]"}},
		{Fault{3, api.ErrDeep}, []string{"a:", "  jump a", "  push [[[[[[[[[", "  push x"}},
		{Fault{2, api.ErrLabel}, []string{"  load 99", "  jump none"}},
		{Fault{1, api.ErrLabel}, []string{"  jump none", "  pack 17"}},
		{Fault{0, api.ErrRange}, []string{"  pack 17"}},
		{Fault{0, api.ErrRange}, []string{"a:", "  pack 99", "  jump a"}},
		{Fault{0, api.ErrRange}, []string{"  nop", "  load 16"}},
		{Fault{0, api.ErrRange}, []string{"  store 99"}},
		{Fault{0, api.ErrShort}, []string{"a:"}},
		{Fault{0, api.ErrShort}, []string{"a:", "b:"}},
		{Fault{2, api.ErrTwice}, []string{"a:", "a:"}},
		{Fault{0, api.ErrLong}, []string{`  signal "` + strings.Repeat("x", 65) + `"`}},
		{Fault{0, api.ErrLong}, []string{`  signal "` + strings.Repeat("x", 256) + `"`, "  pack 17"}},
		{Fault{0, api.ErrRange}, []string{`  signal "` + strings.Repeat("x", 65) + `"`, "  load 16"}},
	} {
		refuse(t, lines(x.l...), x.want)
	}
}

// each: a text of so many lines, made one by one.
func each(n int, line func(i int) string) string {
	var b strings.Builder
	for i := range n {
		b.WriteString(line(i) + "\n")
	}
	return b.String()
}

// P12.2: layer 11's limits, of what is used, each counted once.
func TestParseLimits(t *testing.T) {
	nop := func(int) string { return "  nop" }
	accept(t, each(512, nop), 512)
	refuse(t, each(513, nop), Fault{0, api.ErrLong})
	refuse(t, each(10000, nop), Fault{0, api.ErrLong})
	refuse(t, each(513, nop)+"  bad\n", Fault{514, api.ErrOp})
	refuse(t, each(513, nop)+"  jump a\n", Fault{514, api.ErrLabel})
	push := func(i int) string { return "  push " + strconv.Itoa(i) }
	accept(t, each(64, push), 64)
	refuse(t, each(65, push), Fault{0, api.ErrLong})
	refuse(t, each(5000, push), Fault{0, api.ErrLong})
	accept(t, each(512, func(i int) string { return push(i % 64) }), 512)
	name := func(i int) string { return `  poll "` + strconv.Itoa(i) + `"` }
	accept(t, each(32, name), 32)
	refuse(t, each(33, name), Fault{0, api.ErrLong})
	accept(t, each(512, func(i int) string { return name(i % 32) }), 512)
	accept(t, each(16, func(i int) string { return "  load " + strconv.Itoa(i) }), 16)
	accept(t, each(2000, func(i int) string { return "a" + strconv.Itoa(i) + ":" })+"  nop\n", 1)
}

// P12.2: values and names are counted each once, in the order of their use, and places up to the greatest.
func TestParseUse(t *testing.T) {
	p, f := Parse(lines(`  push "b"`, `  signal "b"`, "  push 1", `  push "b"`, `  call "a"`, "  push [1]", `  fail "b"`, "  load 7", "  push 1", `  push "1"`, "  store 2", "  pack 3"))
	want := api.Image{
		Code: []api.Instr{
			{Op: image.Push}, {Op: image.Signal}, {Op: image.Push, A: 1}, {Op: image.Push}, {Op: image.Call, A: 1}, {Op: image.Push, A: 2},
			{Op: image.Fail}, {Op: image.Load, A: 7}, {Op: image.Push, A: 1}, {Op: image.Push, A: 3}, {Op: image.Store, A: 2}, {Op: image.Pack, A: 3},
		},
		Consts: []api.Value{text("b"), num(1), list(num(1)), text("1")},
		Names:  []string{"b", "a"},
		Places: 8,
	}
	if f != (Fault{}) || !alike(p, want) {
		t.Errorf("Parse: %+v, %+v", p, f)
	}
}

// P1: whatever the text, Parse ends, and what it answers may be and is what its Print is, or the zero image.
func TestParseAny(t *testing.T) {
	s, _ := every()
	pieces := strings.SplitAfter(s, "\n")
	pieces = append(pieces, "  ", " ", "\n", "a:\n", "\"", "[", "jump", "push ", "\x00", "\xff", "99", ":", "  jump a\n")
	read := 0
	for seed := range 20000 {
		rnd := rand.New(rand.NewSource(int64(seed)))
		var b []byte
		for range rnd.Intn(12) {
			b = append(b, pieces[rnd.Intn(len(pieces)-rnd.Intn(2)*13)]...)
		}
		if len(b) > 0 && rnd.Intn(3) == 0 {
			b[rnd.Intn(len(b))] = byte(rnd.Intn(256) >> rnd.Intn(3))
		}
		got, f := Parse(string(b))
		if f != (Fault{}) {
			if !reflect.DeepEqual(got, api.Image{}) || f.Code == api.OK || f.Line < 0 || f.Line > strings.Count(string(b), "\n") {
				t.Fatalf("Parse of %q: %+v, %+v", b, got, f)
			}
			continue
		}
		read++
		tidy, e := Tidy(got)
		if e != api.OK || !reflect.DeepEqual(tidy, got) {
			t.Fatalf("Parse of %q isn't tidy: %+v, %v", b, got, e)
		}
		printed, _ := Print(got)
		if again, f := Parse(printed); f != (Fault{}) || !reflect.DeepEqual(again, got) {
			t.Fatalf("Parse of %q, printed: %+v, %+v", b, again, f)
		}
	}
	if read < 2000 {
		t.Errorf("%d were read", read)
	}
}
