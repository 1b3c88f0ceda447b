package asm

import (
	"strconv"
	"strings"

	"foliot/api"
	"foliot/image"
	"foliot/value"
)

// Print: an image as lines of text.
func Print(p api.Image) (string, api.Errno) {
	if e := image.Check(p); e != api.OK {
		return "", e
	}
	labels := labelsOf(p.Code)
	var b strings.Builder
	for i, in := range p.Code {
		if labels[i] > 0 {
			b.WriteString(label(labels[i]) + labelEnd + lineEnd)
		}
		b.WriteString(indent + instruction(p, in, labels) + lineEnd)
	}
	return b.String(), api.OK
}

// labelsOf: of each instruction the number of its label, from 1 on, or 0, if none jumps there.
func labelsOf(code []api.Instr) []int {
	jumped := make([]bool, len(code))
	for _, in := range code {
		if info, _ := image.Of(in.Op); info.Operand == image.Target {
			jumped[in.A] = true
		}
	}
	labels := make([]int, len(code))
	n := 0
	for i := range code {
		if jumped[i] {
			n++
			labels[i] = n
		}
	}
	return labels
}

func label(n int) string { return "l" + strconv.Itoa(n) }

// instruction: an instruction's name and operand.
func instruction(p api.Image, in api.Instr, labels []int) string {
	info, _ := image.Of(in.Op)
	switch info.Operand {
	case image.Const:
		return info.Name + gap + value.Print(p.Consts[in.A])
	case image.Name:
		return info.Name + gap + value.Quote(p.Names[in.A])
	case image.Place, image.Number:
		return info.Name + gap + strconv.Itoa(in.A)
	case image.Target:
		return info.Name + gap + label(labels[in.A])
	}
	return info.Name
}
