package image

import (
	"foliot/api"
	"foliot/value"
	"foliot/wire"
)

// mostOperand is the greatest operand that is read; whether there is such a one is asked of the whole image.
const mostOperand = 512

// Encode: an image's bytes.
func Encode(p api.Image) ([]byte, api.Errno) {
	if e := Check(p); e != api.OK {
		return nil, e
	}
	var w wire.Writer
	w.Num(uint64(p.Places), uint64(len(p.Consts)))
	for _, v := range p.Consts {
		value.Write(&w, v)
	}
	w.Num(uint64(len(p.Names)))
	for _, name := range p.Names {
		w.Text(name)
	}
	w.Num(uint64(len(p.Code)))
	for _, in := range p.Code {
		write(&w, in)
	}
	return w.Bytes(), api.OK
}

func write(w *wire.Writer, in api.Instr) {
	w.Byte(byte(in.Op))
	if rows[in.Op].operand != None {
		w.Num(uint64(in.A))
	}
}

// Decode: the image that bytes are.
func Decode(b []byte) (api.Image, api.Errno) {
	r := wire.Read(b)
	p := readImage(r)
	e := r.End()
	if e == api.OK {
		e = Check(p)
	}
	if e != api.OK {
		return api.Image{}, e
	}
	return p, api.OK
}

// readImage: the next image; behind an error what is answered doesn't count.
func readImage(r *wire.Reader) api.Image {
	p := api.Image{Places: int(r.Num(MaxPlaces))}
	for range r.Num(MaxConsts) {
		p.Consts = append(p.Consts, value.Read(r))
	}
	for range r.Num(MaxNames) {
		p.Names = append(p.Names, r.Text())
	}
	for range r.Num(MaxCode) {
		p.Code = append(p.Code, readInstr(r))
	}
	return p
}

// readInstr: the next instruction.
func readInstr(r *wire.Reader) api.Instr {
	in := api.Instr{Op: int(r.Byte())}
	if !known(in.Op) {
		r.Fail(api.ErrOp)
		return api.Instr{}
	}
	if rows[in.Op].operand != None {
		in.A = int(r.Num(mostOperand))
	}
	return in
}
