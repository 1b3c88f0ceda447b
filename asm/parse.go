package asm

import (
	"strconv"
	"strings"

	"foliot/api"
	"foliot/image"
	"foliot/value"
)

const (
	maxLabel  = 16 // bytes of a label
	maxNumber = 99 // of two digits
)

// Parse: the image that lines of text are.
func Parse(s string) (api.Image, Fault) {
	p := parser{gatherer: newGatherer(), labels: map[string]int{}}
	if f := p.text(s); f.Code != api.OK {
		return api.Image{}, f
	}
	return p.image, Fault{}
}

// parser gathers a program from its lines.
type parser struct {
	gatherer
	at     int            // the line's number, from 1 on
	labels map[string]int // the instruction for which each stands
	jumps  []jump
}

// jump is an instruction with a label, whose operand isn't known ahead of the last line.
type jump struct {
	line, instr int
	label       string
}

// text: what is wrong with a text, all of whose lines are gathered if nothing is.
func (p *parser) text(s string) Fault {
	if len(s) > MaxText {
		return Fault{Code: api.ErrLong}
	}
	body, ok := strings.CutSuffix(s, lineEnd)
	if !ok {
		return Fault{Code: api.ErrForm}
	}
	for _, line := range strings.Split(body, lineEnd) {
		p.at++
		if e := p.line(line); e != api.OK {
			return Fault{Line: p.at, Code: e}
		}
	}
	if f := p.land(); f.Code != api.OK {
		return f
	}
	return Fault{Code: image.Check(p.image)}
}

// line gathers a line.
func (p *parser) line(s string) api.Errno {
	if label, ok := strings.CutSuffix(s, labelEnd); ok && isLabel(label) {
		return p.label(label)
	}
	s, ok := strings.CutPrefix(s, indent)
	if !ok {
		return api.ErrForm
	}
	name, operand, there := strings.Cut(s, gap)
	op, ok := image.Find(name)
	if !ok {
		return api.ErrOp
	}
	info, _ := image.Of(op)
	if there != (info.Operand != image.None) {
		return api.ErrForm
	}
	a, e := p.read(info.Operand, operand)
	if e != api.OK {
		return e
	}
	p.add(op, a)
	return api.OK
}

// label: a label stands for the next instruction.
func (p *parser) label(s string) api.Errno {
	if _, ok := p.labels[s]; ok {
		return api.ErrTwice
	}
	p.labels[s] = len(p.image.Code)
	return api.OK
}

// read: the operand of a kind that a text is; of a label 0 for the time being.
func (p *parser) read(kind int, s string) (int, api.Errno) {
	switch kind {
	case image.Const:
		v, e := value.Parse(s)
		if e != api.OK {
			return 0, e
		}
		return p.constant(v), api.OK
	case image.Name:
		v, e := value.Parse(s)
		if e != api.OK || v.Kind != api.Text {
			return 0, api.ErrForm
		}
		return p.name(v.S), api.OK
	case image.Place:
		n, e := decimal(s)
		if e != api.OK {
			return 0, e
		}
		return p.place(n), api.OK
	case image.Number:
		return decimal(s)
	case image.Target:
		if !isLabel(s) {
			return 0, api.ErrForm
		}
		p.jumps = append(p.jumps, jump{line: p.at, instr: len(p.image.Code), label: s})
	}
	return 0, api.OK
}

// decimal: the number that one or two digits are.
func decimal(s string) (int, api.Errno) {
	n, err := strconv.Atoi(s)
	if err != nil || n < 0 || n > maxNumber || strconv.Itoa(n) != s {
		return 0, api.ErrForm
	}
	return n, api.OK
}

// isLabel: is a text letters and digits, a letter first, and not too many?
func isLabel(s string) bool {
	if s == "" || len(s) > maxLabel || !isLetter(s[0]) {
		return false
	}
	for i := range len(s) {
		if !isLetter(s[i]) && !isDigit(s[i]) {
			return false
		}
	}
	return true
}

func isLetter(c byte) bool { return 'a' <= c && c <= 'z' }

func isDigit(c byte) bool { return '0' <= c && c <= '9' }

// land gives the instructions with labels the instructions for which these stand.
func (p *parser) land() Fault {
	for _, j := range p.jumps {
		target, ok := p.labels[j.label]
		if !ok || target == len(p.image.Code) {
			return Fault{Line: j.line, Code: api.ErrLabel}
		}
		p.image.Code[j.instr].A = target
	}
	return Fault{}
}
