package value

import (
	"foliot/api"
	"foliot/wire"
)

// Write: a value behind what is written.
func Write(w *wire.Writer, v api.Value) {
	if !endless(v) {
		write(w, v)
	}
}

func write(w *wire.Writer, v api.Value) {
	w.Byte(byte(v.Kind))
	switch v.Kind {
	case api.Int:
		w.Int(v.N)
	case api.Text:
		w.Text(v.S)
	case api.List:
		w.Num(uint64(len(v.List)))
		for _, x := range v.List {
			write(w, x)
		}
	}
}

// Read: the next value.
func Read(r *wire.Reader) api.Value {
	start := r.At()
	d := decoder{r: r}
	v := d.value(0)
	if r.Err() == api.OK {
		r.Fail(atMost(r.At()-start, MaxBytes))
	}
	if r.Err() != api.OK {
		return api.Value{}
	}
	return v
}

// decoder reads one value. What goes wrong first is the Reader's error, and behind it nothing more is read.
type decoder struct {
	r     *wire.Reader
	parts int
}

// value: the next value, which stands in depth lists.
func (d *decoder) value(depth int) api.Value {
	v := api.Value{Kind: int(d.r.Byte())}
	d.parts++
	d.r.Fail(atMost(d.parts, MaxParts))
	switch v.Kind {
	case api.Nil:
	case api.Int:
		v.N = d.r.Int()
	case api.Text:
		v.S = d.r.Text()
		d.r.Fail(atMost(len(v.S), MaxText))
	case api.List:
		v.List = d.list(depth)
	default:
		d.r.Fail(api.ErrKind)
	}
	return v
}

// list: the values of a list, which stands in depth lists.
func (d *decoder) list(depth int) []api.Value {
	if depth >= MaxDepth {
		d.r.Fail(api.ErrDeep)
	}
	n := d.r.Count()
	d.r.Fail(atMost(n, MaxList))
	var l []api.Value
	for range n {
		if d.r.Err() != api.OK {
			break
		}
		l = append(l, d.value(depth+1))
	}
	return l
}

// Encode: a value's bytes.
func Encode(v api.Value) ([]byte, api.Errno) {
	if e := Check(v); e != api.OK {
		return nil, e
	}
	var w wire.Writer
	write(&w, v)
	return w.Bytes(), api.OK
}

// Decode: the value that bytes are.
func Decode(b []byte) (api.Value, api.Errno) {
	r := wire.Read(b)
	v := Read(r)
	if e := r.End(); e != api.OK {
		return api.Value{}, e
	}
	return v, api.OK
}
