package verify

import (
	"math"
	"math/rand"
	"reflect"
	"slices"
	"strings"
	"testing"

	"foliot/api"
	"foliot/asm"
	"foliot/image"
)

// program: that of a text's lines; a line with a colon is a label.
func program(t *testing.T, lines ...string) api.Image {
	t.Helper()
	s := ""
	for _, line := range lines {
		if !strings.HasSuffix(line, ":") {
			line = "  " + line
		}
		s += line + "\n"
	}
	p, f := asm.Parse(s)
	if f.Code != api.OK {
		t.Fatalf("%+v in %q", f, lines)
	}
	return p
}

// times: a line, n times.
func times(n int, line string) []string { return slices.Repeat([]string{line}, n) }

// fine: no fault.
func fine() Fault { return Fault{At: -1, Code: api.OK} }

// refused: is what is answered the zero Facts and this fault?
func refused(t *testing.T, p api.Image, at int, code api.Errno) {
	t.Helper()
	facts, fault := Check(p)
	if fault != (Fault{At: at, Code: code}) {
		t.Errorf("Check: %+v, want %v at %d: %v", fault, code, at, p.Code)
	}
	if facts.Heights != nil || facts.Most != 0 || facts.Span != 0 || facts.Reached() != 0 {
		t.Errorf("beside %+v there is %+v", fault, facts)
	}
}

// move is how many values an instruction takes and leaves, whether it waits, and whether it ends the run, as layer 11 tells it.
type move struct {
	op            int
	takes, leaves int
	waits, ends   bool
}

func moves11() []move {
	return []move{
		{image.Nop, 0, 0, false, false}, {image.Push, 0, 1, false, false}, {image.Pop, 1, 0, false, false},
		{image.Dup, 1, 2, false, false}, {image.Swap, 2, 2, false, false}, {image.Add, 2, 1, false, false},
		{image.Sub, 2, 1, false, false}, {image.Mul, 2, 1, false, false}, {image.Same, 2, 1, false, false},
		{image.Less, 2, 1, false, false}, {image.Not, 1, 1, false, false}, {image.Jump, 0, 0, false, false},
		{image.Unless, 1, 0, false, false}, {image.Load, 0, 1, false, false}, {image.Store, 1, 0, false, false},
		{image.Input, 0, 1, false, false}, {image.Now, 0, 1, false, false}, {image.Timer, 1, 1, false, false},
		{image.Wait, 1, 1, true, false}, {image.Cancel, 1, 1, false, false}, {image.Call, 2, 1, false, false},
		{image.Join, 1, 2, true, false}, {image.Signal, 0, 1, true, false}, {image.Poll, 0, 2, false, false},
		{image.Asked, 0, 1, false, false}, {image.Return, 1, 0, false, true}, {image.Fail, 0, 0, false, true},
		{image.Again, 1, 0, false, true}, {image.Either, 1, 2, true, false}, {image.Pack, 0, 1, false, false},
		{image.Item, 2, 1, false, false}, {image.Size, 1, 1, false, false}, {image.Cat, 2, 1, false, false},
	}
}

// straight: an image of these instructions, with one value, one name and one place.
func straight(code ...api.Instr) api.Image {
	return api.Image{Code: code, Consts: []api.Value{{Kind: api.Int, N: 1}}, Names: []string{"go"}, Places: 1}
}

// inputs: n instructions that leave one value each.
func inputs(n int) []api.Instr { return slices.Repeat([]api.Instr{{Op: image.Input}}, n) }

// The limit stands as the document has it.
func TestLimits(t *testing.T) {
	if MaxStack != 32 {
		t.Error("limits")
	}
}

// P13.1 to P13.3: what is known of programs that can't go wrong, and the document's example.
func TestFacts(t *testing.T) {
	for _, x := range []struct {
		lines   []string
		heights []int
		span    int
		reached int
	}{
		{[]string{"a:", `signal "go"`, "pop", "jump a"}, []int{0, 1, 0}, 3, 3}, // the document's
		{[]string{`fail "x"`}, []int{0}, 1, 1},
		{[]string{"input", "return"}, []int{0, 1}, 2, 2},
		{[]string{"input", "again"}, []int{0, 1}, 2, 2},
		{[]string{"input", "return", "pop", "pop", "wait"}, []int{0, 1, -1, -1, -1}, 2, 2},
		{[]string{"jump a", "b:", "return", "a:", "input", "jump b"}, []int{0, 1, 0, 1}, 4, 4},
		{[]string{"input", "timer", "wait", "return"}, []int{0, 1, 1, 1}, 3, 4},
		{[]string{"input", "wait", "join", "pop", "return"}, []int{0, 1, 1, 2, 1}, 2, 5},
		{[]string{`signal "a"`, `signal "b"`, "nop", `either "c"`, "pack 3", "return"}, []int{0, 1, 2, 2, 3, 1}, 2, 6},
		{[]string{"input", "unless a", "nop", "nop", "a:", `fail "x"`}, []int{0, 1, 0, 0, 0}, 5, 5},
		{[]string{"input", "unless a", `fail "x"`, "a:", "nop", "nop", `fail "x"`}, []int{0, 1, 0, 0, 0, 0}, 5, 6},
		{[]string{"input", "unless a", "a:", `fail "x"`}, []int{0, 1, 0}, 3, 3},
		{[]string{"a:", "input", "unless b", `signal "x"`, "pop", "jump a", "b:", `fail "x"`}, []int{0, 1, 0, 1, 0, 0}, 5, 6},
		{[]string{"jump c", "a:", "nop", "b:", `signal "x"`, "return", "c:", "nop", "jump a"}, []int{0, 0, 0, 1, 0, 0}, 5, 6},
		{[]string{"now", "dup", "dup", "pack 3", "size", "store 1", "load 0", `poll "x"`, "add", "call \"y\"", "return"}, []int{0, 1, 2, 3, 1, 1, 0, 1, 3, 2, 1}, 11, 11},
		{[]string{"jump b", "a:", "jump a", "b:", `fail "x"`}, []int{0, -1, 0}, 2, 2}, // what goes round is never come to
		{[]string{"pack 0", "return"}, []int{0, 1}, 2, 2},
	} {
		facts, fault := Check(program(t, x.lines...))
		if fault != fine() {
			t.Errorf("%q: %+v", x.lines, fault)
			continue
		}
		if most := slices.Max(x.heights); !slices.Equal(facts.Heights, x.heights) || facts.Most != most || facts.Span != x.span || facts.Reached() != x.reached {
			t.Errorf("%q: %+v, %d reached; want %v, %d, %d, %d", x.lines, facts, facts.Reached(), x.heights, most, x.span, x.reached)
		}
	}
}

// P13.1: Reached of facts.
func TestReached(t *testing.T) {
	for _, x := range []struct {
		heights []int
		want    int
	}{{nil, 0}, {[]int{-1}, 0}, {[]int{0}, 1}, {[]int{0, -1, 32, -1, 0}, 3}} {
		if got := (Facts{Heights: x.heights}).Reached(); got != x.want {
			t.Errorf("Reached of %v: %d", x.heights, got)
		}
	}
}

// P13.1: layer 11's errors come first, at no instruction.
func TestImage(t *testing.T) {
	in := api.Instr{Op: image.Pop} // it would be a fault of the stack at 0
	refused(t, api.Image{}, -1, api.ErrShort)
	refused(t, straight(slices.Repeat([]api.Instr{in}, 513)...), -1, api.ErrLong)
	refused(t, straight(in, api.Instr{Op: 33}), -1, api.ErrOp)
	refused(t, straight(in, api.Instr{Op: -1}), -1, api.ErrOp)
	refused(t, straight(in, api.Instr{Op: image.Jump, A: 2}), -1, api.ErrRange)
	refused(t, straight(in, api.Instr{Op: image.Jump, A: -1}), -1, api.ErrRange)
	refused(t, straight(in, api.Instr{Op: image.Pack, A: 17}), -1, api.ErrRange)
	refused(t, straight(in, api.Instr{Op: image.Nop, A: 1}), -1, api.ErrRange)
	for _, bend := range []struct {
		how  func(p *api.Image)
		want api.Errno
	}{
		{func(p *api.Image) { p.Places = 17 }, api.ErrRange},
		{func(p *api.Image) { p.Places = -1 }, api.ErrRange},
		{func(p *api.Image) { p.Names = make([]string, 33) }, api.ErrLong},
		{func(p *api.Image) { p.Names = []string{strings.Repeat("x", 65)} }, api.ErrLong},
		{func(p *api.Image) { p.Consts = make([]api.Value, 65) }, api.ErrLong},
		{func(p *api.Image) { p.Consts = []api.Value{{Kind: 4}} }, api.ErrKind},
		{func(p *api.Image) { p.Consts[0] = nested(9) }, api.ErrDeep},
	} {
		p := straight(in)
		bend.how(&p)
		refused(t, p, -1, bend.want)
	}
}

// nested: n lists in one another.
func nested(n int) api.Value {
	v := api.Value{Kind: api.List}
	for range n - 1 {
		v = api.Value{Kind: api.List, List: []api.Value{v}}
	}
	return v
}

// P13.2: each instruction with as many values as it takes, with one fewer, and where it leaves as many as may be, or one more.
func TestStack(t *testing.T) {
	all := moves11()
	for n := range 17 {
		all = append(all, move{op: image.Pack, takes: n, leaves: 1})
	}
	for i, x := range all {
		in := api.Instr{Op: x.op}
		if i > image.Ops-1 {
			in.A = x.takes
		}
		for n := range MaxStack + 1 {
			if in.Op == image.Jump || in.Op == image.Unless {
				in.A = n + 1
			}
			p := straight(append(append(inputs(n), in), api.Instr{Op: image.Fail})...)
			behind := n - x.takes + x.leaves
			if n < x.takes || behind > MaxStack {
				refused(t, p, n, api.ErrStack)
				continue
			}
			facts, fault := Check(p)
			if fault != fine() || facts.Heights[n] != n {
				t.Errorf("%d with %d values: %+v, %+v", x.op, n, facts, fault)
				continue
			}
			last := behind
			if x.ends {
				last = -1
			}
			if facts.Heights[n+1] != last || facts.Most != max(n, last) {
				t.Errorf("behind %d with %d values: %+v", x.op, n, facts)
			}
		}
	}
	if _, fault := Check(straight(append(inputs(33), api.Instr{Op: image.Fail})...)); fault != (Fault{At: 32, Code: api.ErrStack}) {
		t.Errorf("33 values: %+v", fault)
	}
}

// P13.2: each instruction as the last one.
func TestEnd(t *testing.T) {
	for _, x := range moves11() {
		for n := x.takes; n < 4; n++ {
			in := api.Instr{Op: x.op}
			p := straight(append(inputs(n), in)...)
			switch {
			case x.ends:
				if facts, fault := Check(p); fault != fine() || facts.Reached() != n+1 {
					t.Errorf("%d as the last one: %+v, %+v", x.op, facts, fault)
				}
			case x.op == image.Jump && n == 0:
				refused(t, p, 0, api.ErrLoop)
			case x.op == image.Jump:
				refused(t, p, n, api.ErrStack)
			default: // unless goes back to 0 where there is another number of values, too
				refused(t, p, n, api.ErrEnd)
			}
		}
	}
	refused(t, program(t, "nop"), 0, api.ErrEnd)
	refused(t, program(t, "input", "pop"), 1, api.ErrEnd)
	if _, fault := Check(program(t, `fail "x"`, "nop")); fault != fine() {
		t.Errorf("a last one that is never come to: %+v", fault)
	}
}

// P13.2: what was come to with another number of values, and in which order they are looked at.
func TestMeet(t *testing.T) {
	for _, x := range []struct {
		lines []string
		at    int
		code  api.Errno
	}{
		// come to with another number
		{[]string{"a:", "input", "jump a"}, 1, api.ErrStack},
		{[]string{"a:", `signal "x"`, "jump a"}, 1, api.ErrStack},
		{[]string{"input", "a:", "unless a", "return"}, 1, api.ErrStack},
		{[]string{"input", "unless a", "input", "a:", "return"}, 2, api.ErrStack},
		{[]string{"input", "unless a", "nop", "input", "b:", "return", "a:", "jump b"}, 3, api.ErrStack}, // at 5 one comes to b first
		// of unless the next one is come to first, then the target
		{[]string{"input", "unless a", "pop", "a:", "pop"}, 2, api.ErrStack},
		{[]string{"input", "unless a", "nop", "pop", "a:", "pop"}, 4, api.ErrStack},
		{[]string{"input", "unless a", "jump b", "a:", "pop", "b:", "pop"}, 3, api.ErrStack},
		{[]string{"input", "unless a", "jump b", "b:", "pop", "a:", "nop", "nop", "pop"}, 3, api.ErrStack},
		// ahead in the order of coming, not of standing
		{[]string{"jump b", "a:", "pop", "b:", "jump a"}, 1, api.ErrStack},
		{[]string{"jump b", "a:", "nop", "pop", "b:", "input", "unless a", "nop", "pop"}, 6, api.ErrStack},
		{[]string{"jump b", "a:", "pop", "b:", "input", "unless a", "nop", "pop"}, 1, api.ErrStack},
		{[]string{"jump b", "a:", "pop", "b:", "input", "unless a", "pop"}, 4, api.ErrStack},
		// at one instruction: it takes too many, ahead of the next one's not being there; that, ahead of the target's other number
		{[]string{"input", "input", "unless a", "a:", "jump b", "b:", "add"}, 4, api.ErrStack},
		{[]string{"a:", "input", "input", "unless a"}, 2, api.ErrEnd},
		{[]string{"add"}, 0, api.ErrStack},
		{append(append([]string{}, times(32, "input")...), "dup"), 32, api.ErrStack},
		{append(append([]string{}, times(31, "input")...), "dup"), 31, api.ErrEnd},
		// ahead of going round
		{[]string{"input", "unless a", "b:", "jump b", "a:", "pop"}, 3, api.ErrStack},
		{[]string{"input", "unless a", "b:", "jump b", "a:", "nop"}, 3, api.ErrEnd},
	} {
		refused(t, program(t, x.lines...), x.at, x.code)
	}
}

// P13.3: what goes round without waiting, and the least instruction of it.
func TestRound(t *testing.T) {
	for _, x := range []struct {
		lines []string
		at    int
	}{
		{[]string{"a:", "jump a"}, 0},
		{[]string{"nop", "nop", "a:", "jump a"}, 2},
		{[]string{"nop", "a:", "nop", "nop", "jump a"}, 1},
		{[]string{"input", "a:", "store 0", "load 0", "dup", "unless a", "return"}, 1},
		{[]string{"a:", "asked", "unless a", `fail "x"`}, 0},
		{[]string{"a:", `poll "x"`, "unless b", "return", "b:", "pop", "jump a"}, 0},
		{[]string{"jump b", "a:", "nop", "jump c", "b:", "nop", "c:", "nop", "jump a"}, 1},
		{[]string{"jump d", "a:", "nop", "jump b", "c:", "jump a", "d:", "nop", "b:", "jump c"}, 1},
		{[]string{"input", "unless a", "b:", "nop", "jump b", "a:", "jump a"}, 2},
		{[]string{"input", "unless b", "jump a", "b:", "jump b", "a:", "jump a"}, 3},
		// it waits on one way, not on the other
		{[]string{"a:", "input", "unless b", `signal "x"`, "pop", "b:", "nop", "jump a"}, 0},
		{[]string{"a:", `signal "x"`, "unless a", "b:", "asked", "unless b", "jump a"}, 2},
		// one that waits stands on the greater way round, not on the smaller one
		{[]string{"a:", `signal "x"`, "pop", "b:", "nop", "input", "unless b", "jump a"}, 2},
	} {
		refused(t, program(t, x.lines...), x.at, api.ErrLoop)
	}
}

// P13.3: one that may wait on the way is enough, wherever it stands, and only one that is such.
func TestRoundWaits(t *testing.T) {
	for _, x := range moves11() {
		if x.ends || x.op == image.Jump || x.op == image.Unless {
			continue
		}
		for ahead := range 3 {
			code := slices.Repeat([]api.Instr{{Op: image.Nop}}, ahead)
			code = append(code, inputs(x.takes)...)
			code = append(code, api.Instr{Op: x.op})
			code = append(code, slices.Repeat([]api.Instr{{Op: image.Pop}}, x.leaves)...)
			code = append(code, api.Instr{Op: image.Jump})
			p := straight(code...)
			if !x.waits {
				refused(t, p, 0, api.ErrLoop)
				continue
			}
			facts, fault := Check(p)
			if fault != fine() || facts.Span != len(code) || facts.Reached() != len(code) {
				t.Errorf("round %d: %+v, %+v", x.op, facts, fault)
			}
		}
	}
}

// P13.1 to P13.3: programs as long as may be.
func TestLong(t *testing.T) {
	nops := slices.Repeat([]api.Instr{{Op: image.Nop}}, 511)
	facts, fault := Check(straight(append(slices.Clone(nops), api.Instr{Op: image.Fail})...))
	if fault != fine() || facts.Span != 512 || facts.Reached() != 512 || facts.Most != 0 {
		t.Errorf("512 in a row: %+v", fault)
	}
	refused(t, straight(append(slices.Clone(nops), api.Instr{Op: image.Jump, A: 511})...), 511, api.ErrLoop)
	refused(t, straight(append(slices.Clone(nops), api.Instr{Op: image.Jump})...), 0, api.ErrLoop)
	refused(t, straight(append(slices.Clone(nops), api.Instr{Op: image.Nop})...), 511, api.ErrEnd)
	back := []api.Instr{{Op: image.Jump, A: 511}, {Op: image.Fail}} // each jumps to the one ahead of it
	for at := 2; at < 512; at++ {
		back = append(back, api.Instr{Op: image.Jump, A: at - 1})
	}
	facts, fault = Check(straight(back...))
	if fault != fine() || facts.Span != 512 {
		t.Errorf("512 backwards: %+v, %d", fault, facts.Span)
	}
	var forks []api.Instr // each goes on, or to the last one
	for range 170 {
		forks = append(forks, api.Instr{Op: image.Input}, api.Instr{Op: image.Unless, A: 510}, api.Instr{Op: image.Nop})
	}
	facts, fault = Check(straight(append(forks, api.Instr{Op: image.Fail})...))
	if fault != fine() || facts.Span != 511 {
		t.Errorf("170 forks: %+v, %d", fault, facts.Span)
	}
}

// oracle is layer 13 by its words, by other means: edges as a matrix.
type oracle struct {
	p       api.Image
	heights map[int]int
}

func about(in api.Instr) move {
	m := moves11()[in.Op]
	if in.Op == image.Pack {
		m.takes = in.A
	}
	return m
}

func (o oracle) edges(at int) []int {
	switch in := o.p.Code[at]; {
	case about(in).ends:
		return nil
	case in.Op == image.Jump:
		return []int{in.A}
	case in.Op == image.Unless:
		return []int{at + 1, in.A}
	}
	return []int{at + 1}
}

// stack: the first fault of the stack.
func (o oracle) stack() Fault {
	o.heights[0] = 0
	for waiting := []int{0}; len(waiting) > 0; waiting = waiting[1:] {
		at := waiting[0]
		m := about(o.p.Code[at])
		behind := o.heights[at] - m.takes + m.leaves
		if o.heights[at]-m.takes < 0 || behind > 32 {
			return Fault{at, api.ErrStack}
		}
		for _, next := range o.edges(at) {
			if next > len(o.p.Code)-1 {
				return Fault{at, api.ErrEnd}
			}
			h, was := o.heights[next]
			if was && h != behind {
				return Fault{at, api.ErrStack}
			}
			if !was {
				o.heights[next] = behind
				waiting = append(waiting, next)
			}
		}
	}
	return fine()
}

// round: the least that goes round, or -1, and the span: by how far one comes in so many steps.
func (o oracle) round() (at, span int) {
	n := len(o.p.Code)
	reach := make([][]bool, n)
	for i := range n {
		reach[i] = make([]bool, n)
		if _, ok := o.heights[i]; ok && !about(o.p.Code[i]).waits {
			for _, next := range o.edges(i) {
				reach[i][next] = !about(o.p.Code[next]).waits
			}
		}
	}
	for k := range n {
		for i := range n {
			for j := range n {
				reach[i][j] = reach[i][j] || reach[i][k] && reach[k][j]
			}
		}
	}
	for i := range n {
		if reach[i][i] {
			return i, 0
		}
	}
	here := map[int]bool{}
	for i := range o.heights {
		here[i] = true
	}
	for len(here) > 0 {
		span++
		next := map[int]bool{}
		for i := range here {
			if m := about(o.p.Code[i]); !m.waits && !m.ends {
				for _, j := range o.edges(i) {
					next[j] = true
				}
			}
		}
		here = next
	}
	return -1, span
}

// chance: a program of n instructions that may be, as chance has it; most of them keep the stack low.
func chance(rnd *rand.Rand, n int) api.Image {
	var code []api.Instr
	for range n {
		in := api.Instr{Op: []int{image.Nop, image.Input, image.Pop, image.Unless, image.Jump, image.Signal, image.Not, image.Fail, image.Return, image.Dup, rnd.Intn(image.Ops)}[rnd.Intn(11)]}
		switch in.Op {
		case image.Jump, image.Unless:
			in.A = rnd.Intn(n)
		case image.Pack:
			in.A = rnd.Intn(4)
		}
		code = append(code, in)
	}
	return straight(code...)
}

// P13.1 to P13.3: programs by chance, each held against the words.
func TestChance(t *testing.T) {
	seen := map[api.Errno]int{}
	for seed := range 60000 {
		rnd := rand.New(rand.NewSource(int64(seed)))
		p := chance(rnd, 1+rnd.Intn(9))
		o := oracle{p, map[int]int{}}
		want := o.stack()
		span := 0
		if want == fine() {
			at, s := o.round()
			if span = s; at >= 0 {
				want = Fault{at, api.ErrLoop}
			}
		}
		seen[want.Code]++
		if want != fine() {
			refused(t, p, want.At, want.Code)
			continue
		}
		facts, fault := Check(p)
		if fault != want || facts.Span != span || facts.Reached() != len(o.heights) || len(facts.Heights) != len(p.Code) {
			t.Fatalf("%v: %+v, %+v, want the span %d, %v", p.Code, facts, fault, span, o.heights)
		}
		most := 0
		for at, got := range facts.Heights {
			h, ok := o.heights[at]
			if !ok {
				h = -1
			}
			if most = max(most, h); got != h {
				t.Fatalf("%v: %v, want %v", p.Code, facts.Heights, o.heights)
			}
		}
		if facts.Most != most {
			t.Fatalf("%v: Most %d", p.Code, facts.Most)
		}
		stroll(t, rnd, p, facts)
	}
	for _, e := range []api.Errno{api.OK, api.ErrStack, api.ErrEnd, api.ErrLoop} {
		if seen[e] < 500 {
			t.Errorf("%v came %d times", e, seen[e])
		}
	}
}

// stroll: P13.4: goes through a program that may be, as chance has it.
func stroll(t *testing.T, rnd *rand.Rand, p api.Image, f Facts) {
	t.Helper()
	at, height, span := 0, 0, 0
	for range 50 {
		if at >= len(p.Code) || f.Heights[at] != height || height > f.Most {
			t.Fatalf("%v: %d values at %d, by %+v", p.Code, height, at, f)
		}
		m := about(p.Code[at])
		span++
		if span > f.Span {
			t.Fatalf("%v: %d in a row, by %+v", p.Code, span, f)
		}
		if m.ends {
			return
		}
		if m.waits {
			span = 0
		}
		height += m.leaves - m.takes
		next := oracle{p: p}.edges(at)
		at = next[rnd.Intn(len(next))]
	}
}

// P1, P2: whatever is asked: it ends, changes nothing, and is answered the same again, in new memory.
func TestAny(t *testing.T) {
	for seed := range 3000 {
		rnd := rand.New(rand.NewSource(int64(seed)))
		p := chance(rnd, rnd.Intn(600))
		for range rnd.Intn(3) {
			if len(p.Code) > 0 {
				p.Code[rnd.Intn(len(p.Code))] = api.Instr{Op: []int{rnd.Intn(40) - 3, math.MinInt, math.MaxInt}[rnd.Intn(3)], A: []int{rnd.Intn(600) - 3, math.MinInt, math.MaxInt}[rnd.Intn(3)]}
			}
		}
		if seed%5 == 0 {
			p.Places = []int{-1, 17, math.MinInt, math.MaxInt}[rnd.Intn(4)]
		}
		was := image.Clone(p)
		one, fault := Check(p)
		two, again := Check(p)
		if fault != again || !reflect.DeepEqual(one, two) || !reflect.DeepEqual(p.Code, was.Code) {
			t.Fatalf("%v: %+v, then %+v", p.Code, fault, again)
		}
		all := one.Heights[:cap(one.Heights)]
		for i := range all {
			all[i] = 77
		}
		if three, _ := Check(p); !reflect.DeepEqual(three, two) {
			t.Fatalf("%v: the heights share memory", p.Code)
		}
	}
	endless := make([]api.Value, 1)
	endless[0] = api.Value{Kind: api.List, List: endless}
	p := straight(api.Instr{Op: image.Fail})
	p.Consts = endless
	refused(t, p, -1, api.ErrDeep)
}
