package image

import "foliot/api"

// The instructions.
const (
	Nop = iota
	Push
	Pop
	Dup
	Swap
	Add
	Sub
	Mul
	Same
	Less
	Not
	Jump
	Unless
	Load
	Store
	Input
	Now
	Timer
	Wait
	Cancel
	Call
	Join
	Signal
	Poll
	Asked
	Return
	Fail
	Again
	Either
	Pack
	Item
	Size
	Cat
	Ops // how many there are
)

// The kinds of operands.
const (
	None   = iota
	Const  // a value of the image's
	Name   // a name of the image's
	Place  // a place
	Target // an instruction
	Number // how many
)

// Info is what an instruction needs and does: its name, its operand, how many values it takes, and how many it leaves.
type Info struct {
	Name               string
	Operand, In, Out   int
	Blocks, Ends, Flow bool // it may wait; the run is over behind it; another instruction than the next one may follow
}

// row is an instruction's name, its operand, how many values it takes, and how many it leaves.
type row struct {
	name             string
	operand, in, out int8
}

// rows is that of each instruction.
var rows = [Ops]row{
	Nop:    {"nop", None, 0, 0},
	Push:   {"push", Const, 0, 1},
	Pop:    {"pop", None, 1, 0},
	Dup:    {"dup", None, 1, 2},
	Swap:   {"swap", None, 2, 2},
	Add:    {"add", None, 2, 1},
	Sub:    {"sub", None, 2, 1},
	Mul:    {"mul", None, 2, 1},
	Same:   {"same", None, 2, 1},
	Less:   {"less", None, 2, 1},
	Not:    {"not", None, 1, 1},
	Jump:   {"jump", Target, 0, 0},
	Unless: {"unless", Target, 1, 0},
	Load:   {"load", Place, 0, 1},
	Store:  {"store", Place, 1, 0},
	Input:  {"input", None, 0, 1},
	Now:    {"now", None, 0, 1},
	Timer:  {"timer", None, 1, 1},
	Wait:   {"wait", None, 1, 1},
	Cancel: {"cancel", None, 1, 1},
	Call:   {"call", Name, 2, 1},
	Join:   {"join", None, 1, 2},
	Signal: {"signal", Name, 0, 1},
	Poll:   {"poll", Name, 0, 2},
	Asked:  {"asked", None, 0, 1},
	Return: {"return", None, 1, 0},
	Fail:   {"fail", Name, 0, 0},
	Again:  {"again", None, 1, 0},
	Either: {"either", Name, 1, 2},
	Pack:   {"pack", Number, 0, 1}, // it takes as many as its operand says
	Item:   {"item", None, 2, 1},
	Size:   {"size", None, 1, 1},
	Cat:    {"cat", None, 2, 1},
}

func known(op int) bool { return 0 <= op && op < Ops }

// Of: what an instruction needs and does; false: there is none.
func Of(op int) (Info, bool) {
	if !known(op) {
		return Info{}, false
	}
	r := rows[op]
	return Info{
		Name:    r.name,
		Operand: int(r.operand),
		In:      int(r.in),
		Out:     int(r.out),
		Blocks:  op == Wait || op == Join || op == Signal || op == Either,
		Ends:    op == Return || op == Fail || op == Again,
		Flow:    r.operand == Target,
	}, true
}

// Find: the instruction of a name; false: there is none.
func Find(name string) (int, bool) {
	for op := range Ops {
		if rows[op].name == name {
			return op, true
		}
	}
	return 0, false
}

// checkInstr: may an instruction be, in an image?
func checkInstr(p api.Image, in api.Instr) api.Errno {
	if !known(in.Op) {
		return api.ErrOp
	}
	if in.A < 0 || in.A >= operands(p, int(rows[in.Op].operand)) {
		return api.ErrRange
	}
	return api.OK
}

// operands: how many operands of a kind there are in an image, from 0 on; of none there is one, 0.
func operands(p api.Image, kind int) int {
	switch kind {
	case Const:
		return len(p.Consts)
	case Name:
		return len(p.Names)
	case Place:
		return p.Places
	case Target:
		return len(p.Code)
	case Number:
		return MaxPack + 1
	}
	return 1
}
