package asm

import (
	"math/rand"
	"reflect"
	"slices"
	"strconv"
	"strings"
	"testing"

	"foliot/api"
	"foliot/image"
	"foliot/value"
)

func num(n int64) api.Value { return api.Value{Kind: api.Int, N: n} }

func text(s string) api.Value { return api.Value{Kind: api.Text, S: s} }

func list(l ...api.Value) api.Value { return api.Value{Kind: api.List, List: l} }

// alike: are two images the same? An empty list may be nil or not.
func alike(a, b api.Image) bool {
	return slices.Equal(a.Code, b.Code) && slices.EqualFunc(a.Consts, b.Consts, value.Same) && slices.Equal(a.Names, b.Names) && a.Places == b.Places
}

// lines: a text of these lines.
func lines(l ...string) string { return strings.Join(l, "\n") + "\n" }

// every is a text with each instruction, and the image that it is.
func every() (string, api.Image) {
	s := lines(
		"l1:", "  nop", "  push 5", "  pop", "  dup", "  swap", "  add", "  sub", "  mul", "  same", "  less", "  not",
		"  jump l2", "  unless l1", "l2:", "  load 0", "  store 12", "  input", "  now", "  timer", "  wait", "  cancel",
		`  call "pay"`, "  join", `  signal "go"`, `  poll "pay"`, "  asked", "  return", `  fail ""`, "  again", `  either "\x00\"\\ x"`,
		"  pack 16", "  item", "  size", "  cat", `  push [5 "a b" [] nil]`, "  push 5",
	)
	var p api.Image
	for op := range image.Ops {
		p.Code = append(p.Code, api.Instr{Op: op})
	}
	p.Code[image.Jump].A, p.Code[image.Unless].A = 13, 0
	p.Code[image.Store].A = 12
	p.Code[image.Call].A, p.Code[image.Signal].A, p.Code[image.Poll].A, p.Code[image.Fail].A, p.Code[image.Either].A = 0, 1, 0, 2, 3
	p.Code[image.Pack].A = 16
	p.Code = append(p.Code, api.Instr{Op: image.Push, A: 1}, api.Instr{Op: image.Push})
	p.Consts = []api.Value{num(5), list(num(5), text("a b"), list(), api.Value{})}
	p.Names = []string{"pay", "go", "", "\x00\"\\ x"}
	p.Places = 13
	return s, p
}

// The limit stands as the document has it.
func TestLimits(t *testing.T) {
	if MaxText != 65536 {
		t.Error("limits")
	}
}

// P12.1 to P12.4: each instruction, read, printed and tidied.
func TestEvery(t *testing.T) {
	s, p := every()
	if got, f := Parse(s); f != (Fault{}) || !alike(got, p) {
		t.Errorf("Parse: %+v, %+v", got, f)
	}
	if got, e := Print(p); got != s || e != api.OK {
		t.Errorf("Print: %v\n%s", e, got)
	}
	if got, e := Tidy(p); e != api.OK || !alike(got, p) {
		t.Errorf("Tidy: %+v, %v", got, e)
	}
}

// P12.4: what isn't used, or stands twice, isn't there any more, and the rest stands in the order of its use.
func TestTidy(t *testing.T) {
	p := api.Image{
		Code: []api.Instr{
			{Op: image.Push, A: 3}, {Op: image.Push, A: 1}, {Op: image.Push, A: 4}, {Op: image.Push, A: 0}, {Op: image.Push, A: 3},
			{Op: image.Call, A: 2}, {Op: image.Signal, A: 0}, {Op: image.Poll, A: 3}, {Op: image.Fail, A: 2}, {Op: image.Either, A: 4},
			{Op: image.Load, A: 1}, {Op: image.Store, A: 4}, {Op: image.Load, A: 2}, {Op: image.Jump, A: 12}, {Op: image.Unless, A: 3}, {Op: image.Pack, A: 7},
		},
		Consts: []api.Value{num(7), list(num(1)), text("unused"), text("5"), {Kind: api.List, S: "litter", List: []api.Value{{Kind: api.Int, N: 1, S: "litter"}}}, num(5)},
		Names:  []string{"b", "unused", "a", "b", "c"},
		Places: 16,
	}
	want := api.Image{
		Code: []api.Instr{
			{Op: image.Push, A: 0}, {Op: image.Push, A: 1}, {Op: image.Push, A: 1}, {Op: image.Push, A: 2}, {Op: image.Push, A: 0},
			{Op: image.Call, A: 0}, {Op: image.Signal, A: 1}, {Op: image.Poll, A: 1}, {Op: image.Fail, A: 0}, {Op: image.Either, A: 2},
			{Op: image.Load, A: 1}, {Op: image.Store, A: 4}, {Op: image.Load, A: 2}, {Op: image.Jump, A: 12}, {Op: image.Unless, A: 3}, {Op: image.Pack, A: 7},
		},
		Consts: []api.Value{text("5"), list(num(1)), num(7)},
		Names:  []string{"a", "b", "c"},
		Places: 5,
	}
	got, e := Tidy(p)
	if e != api.OK || !reflect.DeepEqual(got, want) {
		t.Errorf("Tidy: %+v, %v", got, e)
	}
	s, e := Print(p)
	if parsed, f := Parse(s); e != api.OK || f != (Fault{}) || !alike(parsed, want) {
		t.Errorf("Parse of Print: %+v, %v, %+v", parsed, e, f)
	}
	bare := api.Image{Code: []api.Instr{{Op: image.Asked}}, Consts: []api.Value{num(1)}, Names: []string{"n"}, Places: 9}
	if got, e := Tidy(bare); e != api.OK || !alike(got, api.Image{Code: bare.Code}) {
		t.Errorf("Tidy of nothing that is used: %+v, %v", got, e)
	}
	for _, n := range []int{0, 1, 15} {
		if got, _ := Tidy(api.Image{Code: []api.Instr{{Op: image.Store, A: n}, {Op: image.Load}}, Places: 16}); got.Places != n+1 {
			t.Errorf("Tidy of the place %d: %d places", n, got.Places)
		}
	}
}

// refused is images that may not be, and why.
func refused() map[api.Errno]api.Image {
	one := []api.Instr{{}}
	return map[api.Errno]api.Image{
		api.ErrShort: {Places: 20},
		api.ErrLong:  {Code: make([]api.Instr, 513), Places: 20},
		api.ErrRange: {Code: one, Places: 17},
		api.ErrKind:  {Code: one, Consts: []api.Value{{Kind: 9}}},
		api.ErrOp:    {Code: []api.Instr{{Op: 33}}},
	}
}

// P12.3, P12.4: images that may not be.
func TestRefused(t *testing.T) {
	for want, p := range refused() {
		if got, e := Tidy(p); e != want || !reflect.DeepEqual(got, api.Image{}) {
			t.Errorf("Tidy: %+v, %v, want %v", got, e, want)
		}
		if got, e := Print(p); e != want || got != "" {
			t.Errorf("Print: %q, %v, want %v", got, e, want)
		}
	}
	p := api.Image{Code: []api.Instr{{Op: image.Jump, A: 1}}}
	if _, e := Tidy(p); e != api.ErrRange {
		t.Errorf("Tidy of a jump behind the end: %v", e)
	}
	if _, e := Print(p); e != api.ErrRange {
		t.Errorf("Print of a jump behind the end: %v", e)
	}
}

// chance: an image that may be, by chance.
func chance(rnd *rand.Rand) api.Image {
	values := []api.Value{{}, num(0), num(-7), text(""), text("a"), text("\n: \xff"), list(), list(num(1), list(text("b")), api.Value{}), {Kind: api.Int, N: 0, S: "litter"}}
	names := []string{"", "a", "b", "go on", "\"\n", strings.Repeat("\x80", 64)}
	p := api.Image{Places: 1 + rnd.Intn(16)}
	for range 1 + rnd.Intn(12) {
		p.Consts = append(p.Consts, values[rnd.Intn(len(values))])
		p.Names = append(p.Names, names[rnd.Intn(len(names))])
	}
	size := 1 + rnd.Intn(30)
	for range size {
		in := api.Instr{Op: rnd.Intn(image.Ops)}
		info, _ := image.Of(in.Op)
		in.A = rnd.Intn([]int{1, len(p.Consts), len(p.Names), p.Places, size, 17}[info.Operand])
		p.Code = append(p.Code, in)
	}
	return p
}

// P12.3, P12.4: Tidy is what Parse answers of Print, does the same, and is tidy.
func TestRoundTrip(t *testing.T) {
	for seed := range 5000 {
		p := chance(rand.New(rand.NewSource(int64(seed))))
		was := image.Clone(p)
		s, e1 := Print(p)
		tidy, e2 := Tidy(p)
		parsed, f := Parse(s)
		if e1 != api.OK || e2 != api.OK || f != (Fault{}) || !reflect.DeepEqual(parsed, tidy) {
			t.Fatalf("%+v\n%s\n%v %v %+v", p, s, e1, e2, f)
		}
		if again, _ := Print(tidy); again != s {
			t.Fatalf("Print of Tidy:\n%s\n%s", again, s)
		}
		if twice, _ := Tidy(tidy); !alike(twice, tidy) {
			t.Fatalf("Tidy of Tidy of %+v", p)
		}
		sameCode(t, p, tidy)
		smallest(t, tidy)
		if !alike(p, was) {
			t.Fatalf("what was handed in is changed: %+v", was)
		}
	}
}

// sameCode: do two images have the same instructions, their operands standing for the same?
func sameCode(t *testing.T, p, q api.Image) {
	t.Helper()
	if len(p.Code) != len(q.Code) {
		t.Fatalf("%d instructions, %d", len(p.Code), len(q.Code))
	}
	for i, a := range p.Code {
		b := q.Code[i]
		info, _ := image.Of(a.Op)
		same := a.Op == b.Op
		switch info.Operand {
		case image.Const:
			same = same && value.Same(p.Consts[a.A], q.Consts[b.A])
		case image.Name:
			same = same && p.Names[a.A] == q.Names[b.A]
		default:
			same = same && a.A == b.A
		}
		if !same {
			t.Fatalf("the instruction %d: %+v, %+v", i, a, b)
		}
	}
}

// smallest: is what an image has what it uses, in that order, each once?
func smallest(t *testing.T, p api.Image) {
	t.Helper()
	consts, names, places := 0, 0, 0
	for _, in := range p.Code {
		info, _ := image.Of(in.Op)
		switch info.Operand {
		case image.Const:
			if in.A > consts {
				t.Fatalf("a value out of order: %+v", p)
			}
			consts = max(consts, in.A+1)
		case image.Name:
			if in.A > names {
				t.Fatalf("a name out of order: %+v", p)
			}
			names = max(names, in.A+1)
		case image.Place:
			places = max(places, in.A+1)
		}
	}
	if consts != len(p.Consts) || names != len(p.Names) || places != p.Places {
		t.Fatalf("not tidy: %+v", p)
	}
	for i := range p.Consts {
		for j := range i {
			if value.Same(p.Consts[i], p.Consts[j]) {
				t.Fatalf("a value twice: %+v", p)
			}
		}
	}
	for i := range p.Names {
		if slices.Contains(p.Names[:i], p.Names[i]) {
			t.Fatalf("a name twice: %+v", p)
		}
	}
}

// P2: Tidy and Parse answer memory of their own.
func TestMemory(t *testing.T) {
	values := []api.Value{num(1), list(num(2)), num(3)}
	code := []api.Instr{{Op: image.Push}, {Op: image.Signal}, {Op: 77}}
	names := []string{"n", "spare"}
	p := api.Image{Code: code[:2], Consts: []api.Value{list()}, Names: names[:1]}
	p.Consts[0].List = values[:2]
	one, _ := Tidy(p)
	two, _ := Tidy(p)
	for _, l := range [][]api.Value{one.Consts[0].List[:cap(one.Consts[0].List)], one.Consts} {
		for i := range l {
			l[i] = num(99)
		}
	}
	_, _ = append(one.Code, api.Instr{Op: 88}), append(one.Names, "x")
	one.Code[0].A, one.Names[0] = 66, "y"
	if code[0].A != 0 || code[2].Op != 77 || names[0] != "n" || names[1] != "spare" || values[0].N != 1 || values[1].List[0].N != 2 || values[2].N != 3 {
		t.Error("what was handed in is changed")
	}
	values[0] = num(55)
	if !value.Same(two.Consts[0], list(num(1), list(num(2)))) || two.Code[0].A != 0 || two.Names[0] != "n" {
		t.Error("an answer shares memory")
	}
	s, want := every()
	a, _ := Parse(s)
	b, _ := Parse(s)
	a.Code[0].Op, a.Names[0] = 9, "z"
	a.Consts[1].List[0] = num(0)
	if !alike(b, want) {
		t.Error("two answers share memory")
	}
}

// P12.3: where labels stand.
func TestPrint(t *testing.T) {
	jump := func(a int) api.Instr { return api.Instr{Op: image.Jump, A: a} }
	unless := func(a int) api.Instr { return api.Instr{Op: image.Unless, A: a} }
	for _, x := range []struct {
		code []api.Instr
		want string
	}{
		{[]api.Instr{{}}, "  nop\n"},
		{[]api.Instr{jump(0)}, "l1:\n  jump l1\n"},
		{[]api.Instr{{}, {}, jump(1)}, "  nop\nl1:\n  nop\n  jump l1\n"},
		{[]api.Instr{jump(2), jump(1), jump(0)}, "l1:\n  jump l3\nl2:\n  jump l2\nl3:\n  jump l1\n"},
		{[]api.Instr{unless(3), unless(3), {}, {Op: image.Return}, {}}, "  unless l1\n  unless l1\n  nop\nl1:\n  return\n  nop\n"},
		{[]api.Instr{{}, jump(0), {Op: image.Pop}, unless(2)}, "l1:\n  nop\n  jump l1\nl2:\n  pop\n  unless l2\n"},
	} {
		got, e := Print(api.Image{Code: x.code})
		if got != x.want || e != api.OK {
			t.Errorf("Print: %q, %v, want %q", got, e, x.want)
		}
	}
	p := api.Image{Code: make([]api.Instr, 512)}
	for i := range p.Code {
		p.Code[i] = jump(511 - i)
	}
	var want strings.Builder
	for i := range 512 {
		want.WriteString("l" + strconv.Itoa(i+1) + ":\n  jump l" + strconv.Itoa(512-i) + "\n")
	}
	if got, e := Print(p); got != want.String() || e != api.OK {
		t.Errorf("Print of 512 jumps: %v\n%s", e, got)
	}
	if got, f := Parse(want.String()); !alike(got, p) || f != (Fault{}) {
		t.Errorf("Parse of 512 jumps: %+v", f)
	}
}

// P12.3: a Print may be longer than what Parse takes.
func TestPrintLong(t *testing.T) {
	p := api.Image{Code: make([]api.Instr, 512), Consts: []api.Value{text(strings.Repeat("\xff", 256))}}
	for i := range p.Code {
		p.Code[i].Op = image.Push
	}
	s, e := Print(p)
	if e != api.OK || s != strings.Repeat(`  push "`+strings.Repeat(`\xff`, 256)+"\"\n", 512) {
		t.Errorf("Print: %d bytes, %v", len(s), e)
	}
	if _, f := Parse(s); f != (Fault{Code: api.ErrLong}) {
		t.Errorf("Parse: %+v", f)
	}
}

// P12: the document's example.
func TestExample(t *testing.T) {
	p, f := Parse("start:\n  signal \"go\"\n  pop\n  jump start\n")
	want := api.Image{Code: []api.Instr{{Op: image.Signal}, {Op: image.Pop}, {Op: image.Jump}}, Names: []string{"go"}}
	if f != (Fault{}) || !alike(p, want) {
		t.Errorf("Parse: %+v, %+v", p, f)
	}
	if s, e := Print(p); e != api.OK || s != "l1:\n  signal \"go\"\n  pop\n  jump l1\n" {
		t.Errorf("Print: %q, %v", s, e)
	}
}
