package image

import (
	"math"
	"reflect"
	"strings"
	"testing"

	"foliot/api"
	"foliot/value"
)

func num(n int64) api.Value { return api.Value{Kind: api.Int, N: n} }

func text(s string) api.Value { return api.Value{Kind: api.Text, S: s} }

func list(l ...api.Value) api.Value { return api.Value{Kind: api.List, List: l} }

// nested: a number in n lists.
func nested(n int) api.Value {
	v := num(1)
	for range n {
		v = list(v)
	}
	return v
}

// endless: a list that stands in itself, twice.
func endless() api.Value {
	l := make([]api.Value, 2)
	l[0], l[1] = list(l...), list(l...)
	return list(l...)
}

// instrRow is an instruction as the document tells it.
type instrRow struct {
	name                string
	operand             int
	in, out             int
	waits, ends, follow bool
}

// told is the instructions by their numbers.
func told() []instrRow {
	return []instrRow{
		{"nop", 0, 0, 0, false, false, false},
		{"push", 1, 0, 1, false, false, false},
		{"pop", 0, 1, 0, false, false, false},
		{"dup", 0, 1, 2, false, false, false},
		{"swap", 0, 2, 2, false, false, false},
		{"add", 0, 2, 1, false, false, false},
		{"sub", 0, 2, 1, false, false, false},
		{"mul", 0, 2, 1, false, false, false},
		{"same", 0, 2, 1, false, false, false},
		{"less", 0, 2, 1, false, false, false},
		{"not", 0, 1, 1, false, false, false},
		{"jump", 4, 0, 0, false, false, true},
		{"unless", 4, 1, 0, false, false, true},
		{"load", 3, 0, 1, false, false, false},
		{"store", 3, 1, 0, false, false, false},
		{"input", 0, 0, 1, false, false, false},
		{"now", 0, 0, 1, false, false, false},
		{"timer", 0, 1, 1, false, false, false},
		{"wait", 0, 1, 1, true, false, false},
		{"cancel", 0, 1, 1, false, false, false},
		{"call", 2, 2, 1, false, false, false},
		{"join", 0, 1, 2, true, false, false},
		{"signal", 2, 0, 1, true, false, false},
		{"poll", 2, 0, 2, false, false, false},
		{"asked", 0, 0, 1, false, false, false},
		{"return", 0, 1, 0, false, true, false},
		{"fail", 2, 0, 0, false, true, false},
		{"again", 0, 1, 0, false, true, false},
		{"either", 2, 1, 2, true, false, false},
		{"pack", 5, 0, 1, false, false, false},
		{"item", 0, 2, 1, false, false, false},
		{"size", 0, 1, 1, false, false, false},
		{"cat", 0, 2, 1, false, false, false},
	}
}

// noInstrs is numbers of no instruction.
func noInstrs() []int {
	return []int{-1, 33, 34, 255, 256, 257, 256 + Pop, math.MinInt, math.MinInt + 1, math.MaxInt}
}

// rich: an image with two values, three names, four places and five instructions, the first of which is in.
func rich(in api.Instr) api.Image {
	return api.Image{
		Code:   []api.Instr{in, {Op: Input}, {Op: Push, A: 1}, {Op: Pop}, {Op: Return}},
		Consts: []api.Value{num(5), list(text("a"), list())},
		Names:  []string{"go", "", "\xff\x00"},
		Places: 4,
	}
}

// counts is how many operands of each kind there are in a rich image.
func counts() []int { return []int{1, 2, 3, 4, 5, 17} }

// full: an image with as much as may be of everything.
func full() api.Image {
	p := api.Image{Places: 16}
	for range 64 {
		p.Consts = append(p.Consts, list(text(strings.Repeat("\xff", 256)), text(strings.Repeat("y", 248))))
	}
	for range 32 {
		p.Names = append(p.Names, strings.Repeat("n", 64))
	}
	for i := range 512 {
		p.Code = append(p.Code, []api.Instr{{Op: Push, A: 63}, {Op: Signal, A: 31}, {Op: Load, A: 15}, {Op: Jump, A: 511}, {Op: Pack, A: 16}, {Op: Cat}}[i%6])
	}
	return p
}

// The limits stand as the document has them.
func TestLimits(t *testing.T) {
	if MaxCode != 512 || MaxConsts != 64 || MaxNames != 32 || MaxPlaces != 16 || MaxPack != 16 {
		t.Error("limits")
	}
	if None != 0 || Const != 1 || Name != 2 || Place != 3 || Target != 4 || Number != 5 {
		t.Error("operands")
	}
}

// The instructions' constants are numbered in the order of the document's names.
func TestConstants(t *testing.T) {
	all := []int{
		Nop, Push, Pop, Dup, Swap, Add, Sub, Mul, Same, Less, Not, Jump, Unless, Load, Store, Input, Now, Timer, Wait, Cancel,
		Call, Join, Signal, Poll, Asked, Return, Fail, Again, Either, Pack, Item, Size, Cat, Ops,
	}
	for i, op := range all {
		if op != i {
			t.Errorf("the constant %d is %d", i, op)
		}
	}
	if Ops != 33 || len(told()) != Ops {
		t.Errorf("%d instructions", Ops)
	}
}

// P11.1: each instruction, and numbers of none.
func TestOf(t *testing.T) {
	for op, row := range told() {
		want := Info{Name: row.name, Operand: row.operand, In: row.in, Out: row.out, Blocks: row.waits, Ends: row.ends, Flow: row.follow}
		if got, ok := Of(op); got != want || !ok {
			t.Errorf("Of(%d) = %+v, %v, want %+v", op, got, ok, want)
		}
	}
	for _, op := range noInstrs() {
		if got, ok := Of(op); got != (Info{}) || ok {
			t.Errorf("Of(%d) = %+v, %v", op, got, ok)
		}
	}
}

// P11.1.
func TestFind(t *testing.T) {
	for op, row := range told() {
		if got, ok := Find(row.name); got != op || !ok {
			t.Errorf("Find(%q) = %d, %v", row.name, got, ok)
		}
		for _, s := range []string{row.name + " ", " " + row.name, row.name[1:], row.name[:len(row.name)-1], strings.ToUpper(row.name), row.name + "\x00", row.name + "s"} {
			if got, ok := Find(s); got != 0 || ok {
				t.Errorf("Find(%q) = %d, %v", s, got, ok)
			}
		}
	}
	for _, s := range []string{"", " ", "ops", "none", "const", "Push", "timer-fired", "\xff", strings.Repeat("nop", 5000)} {
		if got, ok := Find(s); got != 0 || ok {
			t.Errorf("Find(%q) = %d, %v", s, got, ok)
		}
	}
}

// P11.2: of each instruction each operand at and beyond its limits.
func TestCheckOperands(t *testing.T) {
	for op, row := range told() {
		most := counts()[row.operand] - 1
		for _, a := range []int{math.MinInt, -1, 0, 1, 2, 3, 4, 5, 6, 15, 16, 17, 64, 512, 513, math.MaxInt} {
			want := api.OK
			if a < 0 || a > most {
				want = api.ErrRange
			}
			p := rich(api.Instr{Op: op, A: a})
			if got := Check(p); got != want {
				t.Errorf("Check of %s %d = %v, want %v", row.name, a, got, want)
			}
			b, err := Encode(p)
			if err != want || (err != api.OK) != (b == nil) {
				t.Errorf("Encode of %s %d: %x, %v, want %v", row.name, a, b, err, want)
			}
		}
	}
	for _, op := range noInstrs() {
		for _, a := range []int{-1, 0, 1} {
			if got := Check(rich(api.Instr{Op: op, A: a})); got != api.ErrOp {
				t.Errorf("Check of the instruction %d, %d = %v", op, a, got)
			}
		}
	}
}

// P11.2: an operand where there is nothing of its kind.
func TestCheckNothingThere(t *testing.T) {
	for op, row := range told() {
		want := api.OK
		if row.operand == Const || row.operand == Name || row.operand == Place {
			want = api.ErrRange
		}
		if got := Check(api.Image{Code: []api.Instr{{Op: op}}}); got != want {
			t.Errorf("Check of %s alone = %v, want %v", row.name, got, want)
		}
	}
}

// P11.2: how much there is, at and beyond the limits.
func TestCheckSizes(t *testing.T) {
	for name, x := range map[string]struct {
		change func(p *api.Image)
		want   api.Errno
	}{
		"as much as may be":       {func(p *api.Image) { *p = full() }, api.OK},
		"one instruction":         {func(p *api.Image) { *p = api.Image{Code: []api.Instr{{}}} }, api.OK},
		"the zero image":          {func(p *api.Image) { *p = api.Image{} }, api.ErrShort},
		"no code":                 {func(p *api.Image) { p.Code = nil }, api.ErrShort},
		"empty code":              {func(p *api.Image) { p.Code = []api.Instr{} }, api.ErrShort},
		"512 instructions":        {func(p *api.Image) { p.Code = make([]api.Instr, 512) }, api.OK},
		"513 instructions":        {func(p *api.Image) { p.Code = make([]api.Instr, 513) }, api.ErrLong},
		"64 values":               {func(p *api.Image) { p.Consts = make([]api.Value, 64) }, api.OK},
		"65 values":               {func(p *api.Image) { p.Consts = make([]api.Value, 65) }, api.ErrLong},
		"32 names":                {func(p *api.Image) { p.Names = make([]string, 32) }, api.OK},
		"33 names":                {func(p *api.Image) { p.Names = make([]string, 33) }, api.ErrLong},
		"no place":                {func(p *api.Image) { p.Places = 0 }, api.OK},
		"16 places":               {func(p *api.Image) { p.Places = 16 }, api.OK},
		"17 places":               {func(p *api.Image) { p.Places = 17 }, api.ErrRange},
		"places below 0":          {func(p *api.Image) { p.Places = -1 }, api.ErrRange},
		"the least places":        {func(p *api.Image) { p.Places = math.MinInt }, api.ErrRange},
		"the most places":         {func(p *api.Image) { p.Places = math.MaxInt }, api.ErrRange},
		"a name of 64 bytes":      {func(p *api.Image) { p.Names[2] = strings.Repeat("n", 64) }, api.OK},
		"a name of 65 bytes":      {func(p *api.Image) { p.Names[2] = strings.Repeat("n", 65) }, api.ErrLong},
		"a value of no kind":      {func(p *api.Image) { p.Consts[1] = api.Value{Kind: 4} }, api.ErrKind},
		"a value in lists":        {func(p *api.Image) { p.Consts[1] = nested(8) }, api.OK},
		"a value too deep":        {func(p *api.Image) { p.Consts[1] = nested(9) }, api.ErrDeep},
		"an endless value":        {func(p *api.Image) { p.Consts[1] = endless() }, api.ErrDeep},
		"a value too long":        {func(p *api.Image) { p.Consts[1] = text(strings.Repeat("x", 257)) }, api.ErrLong},
		"the last instruction":    {func(p *api.Image) { p.Code[4].Op = 33 }, api.ErrOp},
		"the last one's operand":  {func(p *api.Image) { p.Code[4].A = 1 }, api.ErrRange},
		"a jump to the last one":  {func(p *api.Image) { p.Code[4] = api.Instr{Op: Jump, A: 4} }, api.OK},
		"a jump behind the last":  {func(p *api.Image) { p.Code[4] = api.Instr{Op: Jump, A: 5} }, api.ErrRange},
		"a value that isn't used": {func(p *api.Image) { p.Consts[0] = api.Value{Kind: -1} }, api.ErrKind},
	} {
		p := rich(api.Instr{})
		x.change(&p)
		if got := Check(p); got != x.want {
			t.Errorf("Check, %s: %v, want %v", name, got, x.want)
		}
		if b, err := Encode(p); err != x.want || (err != api.OK) != (b == nil) {
			t.Errorf("Encode, %s: %d bytes, %v, want %v", name, len(b), err, x.want)
		}
		if got, err := New("n", p); err != x.want || (err != api.OK) != (got == nil) {
			t.Errorf("New, %s: %v, want %v", name, err, x.want)
		}
	}
}

// P11.2: of several errors the one that is named first is the answer.
func TestCheckOrder(t *testing.T) {
	faults := []struct {
		change func(p *api.Image)
		want   api.Errno
	}{
		{func(p *api.Image) { p.Names = append(p.Names, make([]string, 33)...) }, api.ErrLong},
		{func(p *api.Image) { p.Places = 17 }, api.ErrRange},
		{func(p *api.Image) { p.Consts[0] = nested(9) }, api.ErrDeep},
		{func(p *api.Image) { p.Consts[1] = api.Value{Kind: 9} }, api.ErrKind},
		{func(p *api.Image) { p.Names[0] = strings.Repeat("n", 65) }, api.ErrLong},
		{func(p *api.Image) { p.Code[0] = api.Instr{Op: 33, A: -1} }, api.ErrOp},
		{func(p *api.Image) { p.Code[1] = api.Instr{Op: Load, A: 4} }, api.ErrRange},
		{func(p *api.Image) { p.Code[2] = api.Instr{Op: -1} }, api.ErrOp},
		{func(p *api.Image) { p.Code[3] = api.Instr{Op: Pack, A: 17} }, api.ErrRange},
	}
	for i, one := range faults {
		for _, two := range faults[i:] {
			p := rich(api.Instr{})
			one.change(&p)
			two.change(&p)
			if got := Check(p); got != one.want {
				t.Errorf("Check of the fault %d = %v, want %v", i, got, one.want)
			}
		}
	}
	// No code at all is told ahead of all else, and too many of any thing ahead of the places.
	for _, p := range []api.Image{
		{Places: 17}, {Consts: make([]api.Value, 65)}, {Names: make([]string, 33)}, {Consts: []api.Value{{Kind: 7}}}, {Names: []string{strings.Repeat("n", 65)}},
	} {
		if got := Check(p); got != api.ErrShort {
			t.Errorf("Check without code = %v", got)
		}
	}
	for i, p := range []api.Image{
		{Code: make([]api.Instr, 513), Places: -1}, {Code: make([]api.Instr, 1), Consts: make([]api.Value, 65), Places: -1}, {Code: make([]api.Instr, 1), Names: make([]string, 33), Places: -1},
	} {
		if got := Check(p); got != api.ErrLong {
			t.Errorf("Check of too much, %d = %v", i, got)
		}
	}
}

// P11.3.
func TestClone(t *testing.T) {
	images := []api.Image{{}, full(), {Places: -3, Code: []api.Instr{{Op: 99, A: -1}}, Names: []string{strings.Repeat("n", 70)}, Consts: []api.Value{{Kind: 7}}}}
	for op := range told() {
		images = append(images, rich(api.Instr{Op: op, A: 1}))
	}
	for i, p := range images {
		if got := Clone(p); !alike(got, p) {
			t.Errorf("Clone of the image %d: %+v", i, got)
		}
	}
	got := Clone(api.Image{Code: make([]api.Instr, 3), Consts: []api.Value{endless(), num(1)}})
	if len(got.Code) != 3 || len(got.Consts) != 2 || got.Consts[1].N != 1 {
		t.Errorf("Clone of an endless value: %+v", got)
	}
}

// alike: are two images the same? An empty list may be nil or not.
func alike(a, b api.Image) bool {
	if len(a.Code) != len(b.Code) || len(a.Consts) != len(b.Consts) || len(a.Names) != len(b.Names) || a.Places != b.Places {
		return false
	}
	for i := range a.Code {
		if a.Code[i] != b.Code[i] {
			return false
		}
	}
	for i := range a.Consts {
		if !value.Same(a.Consts[i], b.Consts[i]) {
			return false
		}
	}
	for i := range a.Names {
		if a.Names[i] != b.Names[i] {
			return false
		}
	}
	return true
}

// roomy: a rich image whose lists have spare room, and a look at whether anything of it was changed.
func roomy() (api.Image, func() bool) {
	make2 := func() ([]api.Instr, []api.Value, []api.Value, []string) {
		return []api.Instr{{Op: Push, A: 1}, {Op: Return}, {Op: 77, A: 7}},
			[]api.Value{num(5), {}, num(9)},
			[]api.Value{text("a"), num(8)},
			[]string{"go", "on", "spare"}
	}
	code, consts, inner, names := make2()
	consts[1] = api.Value{Kind: api.List, List: inner[:1]}
	p := api.Image{Code: code[:2], Consts: consts[:2], Names: names[:2], Places: 3}
	return p, func() bool {
		code2, consts2, inner2, names2 := make2()
		consts2[1] = api.Value{Kind: api.List, List: inner2[:1]}
		return reflect.DeepEqual(code, code2) && reflect.DeepEqual(consts, consts2) && reflect.DeepEqual(inner, inner2) && reflect.DeepEqual(names, names2)
	}
}

// scribble changes all memory of an image, its spare room too.
func scribble(p api.Image) {
	code := p.Code[:cap(p.Code)]
	for i := range code {
		code[i] = api.Instr{Op: 55, A: 55}
	}
	names := p.Names[:cap(p.Names)]
	for i := range names {
		names[i] = "scribble"
	}
	consts := p.Consts[:cap(p.Consts)]
	for i := range consts {
		inner := consts[i].List[:cap(consts[i].List)]
		for j := range inner {
			inner[j] = text("scribble")
		}
		consts[i] = text("scribble")
	}
}

// P2, P11.3, P11.4: what is handed in is neither changed nor kept, and answers are memory of their own.
func TestMemory(t *testing.T) {
	p, whole := roomy()
	Check(p)
	b, _ := Encode(p)
	again, _ := Encode(p)
	clear(b[:cap(b)])
	program, _ := New("n", p)
	decoded, _ := Decode(again)
	other, _ := Decode(again)
	cloned := Clone(p)
	answered := program.Image()
	for name, x := range map[string]api.Image{"Decode": decoded, "Clone": cloned, "Image": answered} {
		if !alike(x, p) {
			t.Errorf("%s: %+v", name, x)
		}
		scribble(x)
		if !whole() || !alike(other, p) || !alike(program.Image(), p) {
			t.Errorf("an answer of %s shares memory", name)
		}
	}
	was := append([]byte(nil), again...)
	if _, err := Decode(again); err != api.OK || string(was) != string(again) {
		t.Error("Decode changed what it was given")
	}
	kept := program.Image()
	scribble(p)
	if !alike(program.Image(), kept) || program.Sum() != sumOf("n", was) || !alike(other, kept) {
		t.Error("what was handed in is kept")
	}
}
