package value

import (
	"bytes"
	"math"
	"math/rand"
	"strings"
	"testing"

	"foliot/api"
	"foliot/wire"
)

func wrote(v api.Value) string {
	var w wire.Writer
	Write(&w, v)
	return string(w.Bytes())
}

// P3.3.
func TestWrite(t *testing.T) {
	for _, x := range []struct {
		v    api.Value
		want string
	}{
		{api.Value{}, "\x00"},
		{num(0), "\x01\x00"},
		{num(-1), "\x01\x01"},
		{num(300), "\x01\xd8\x04"},
		{num(math.MinInt64), "\x01\xff\xff\xff\xff\xff\xff\xff\xff\xff\x01"},
		{text(""), "\x02\x00"},
		{text("ab\xff"), "\x02\x03ab\xff"},
		{text(strings.Repeat("x", 256)), "\x02\x80\x02" + strings.Repeat("x", 256)},
		{list(), "\x03\x00"},
		{list(num(5), text("a")), "\x03\x02\x01\x0a\x02\x01a"},
		{list(list(), api.Value{}, list(num(1))), "\x03\x03\x03\x00\x00\x03\x01\x01\x02"},
	} {
		if got := wrote(x.v); got != x.want {
			t.Errorf("Write(%s): %x, want %x", Print(x.v), got, x.want)
		}
		if got := wrote(littered(x.v)); got != x.want {
			t.Errorf("Write(%s), with fields that don't count: %x, want %x", Print(x.v), got, x.want)
		}
		if got, e := Encode(x.v); string(got) != x.want || e != api.OK {
			t.Errorf("Encode(%s): %x, %v, want %x", Print(x.v), got, e, x.want)
		}
	}
}

// P3.3: what was written is read, up to each limit.
func TestDecode(t *testing.T) {
	may := append(ordered(), text(strings.Repeat("x", 256)), nils(64), full(256), wide(512), nested(num(0), 8), nested(list(), 7))
	for _, v := range may {
		b, e := Encode(v)
		if e != api.OK {
			t.Fatalf("Encode(%s): %v", Print(v), e)
		}
		got, e := Decode(b)
		if e != api.OK || !Same(got, v) {
			t.Errorf("Decode(%x) = %s, %v", b, Print(got), e)
		}
		for n := range b {
			if got, e := Decode(b[:n]); e != api.ErrShort || got.Kind != api.Nil || len(got.List) != 0 {
				t.Errorf("Decode(%x) = %s, %v", b[:n], Print(got), e)
			}
		}
		if got, e := Decode(append(b, 0)); e != api.ErrForm || got.Kind != api.Nil {
			t.Errorf("Decode of %x and a byte = %s, %v", b, Print(got), e)
		}
	}
	if b, _ := Encode(wide(512)); len(b) != 512 {
		t.Errorf("wide(512) is %d bytes", len(b))
	}
}

// P3.3: what goes wrong, and which error is first.
func TestDecodeErrors(t *testing.T) {
	deep := strings.Repeat("\x03\x01", 8) // eight lists in one another
	long := "\x02\x81\x02" + strings.Repeat("x", 257)
	parts := wrote(full(256))
	open := "\x03\x05" + parts[2:] // full(256) with one value more to come
	for name, x := range map[string]struct {
		b    string
		want api.Errno
	}{
		"nothing":                               {"", api.ErrShort},
		"kind 4":                                {"\x04", api.ErrKind},
		"kind 255":                              {"\xff\x01", api.ErrKind},
		"kind in a list":                        {"\x03\x02\x00\x04", api.ErrKind},
		"a number without an end":               {"\x01\x80", api.ErrShort},
		"a number of another form":              {"\x01\x80\x00", api.ErrForm},
		"a number above all":                    {"\x01\xff\xff\xff\xff\xff\xff\xff\xff\xff\x02", api.ErrForm},
		"a text too short":                      {"\x02\x03ab", api.ErrShort},
		"a text's length of another form":       {"\x02\x81\x00a", api.ErrForm},
		"a long text":                           {long, api.ErrLong},
		"a long text that ends too soon":        {long[:len(long)-1], api.ErrShort},
		"a text too long for layer 2":           {"\x02\x81\x20", api.ErrLong},
		"65 values":                             {"\x03\x41" + strings.Repeat("\x00", 65), api.ErrLong},
		"65 values, none there":                 {"\x03\x41", api.ErrLong},
		"4096 values":                           {"\x03\x80\x20", api.ErrLong},
		"4097 values":                           {"\x03\x81\x20", api.ErrLong},
		"64 values, none there":                 {"\x03\x40", api.ErrShort},
		"a count of another form":               {"\x03\x80\x00", api.ErrForm},
		"deep":                                  {deep + "\x03\x00", api.ErrDeep},
		"deep, no count there":                  {deep + "\x03", api.ErrDeep},
		"deep, ahead of too many":               {deep + "\x03\x41", api.ErrDeep},
		"deep, ahead of a count's form":         {deep + "\x03\x80\x00", api.ErrDeep},
		"kind in eight lists":                   {deep + "\x04", api.ErrKind},
		"257 parts":                             {open + "\x00", api.ErrLong},
		"the 257th, ahead of its kind":          {open + "\x04", api.ErrLong},
		"the 257th, ahead of its form":          {open + "\x01\x80\x00", api.ErrLong},
		"the 257th isn't there":                 {open, api.ErrShort},
		"the 257th, ahead of being deep":        {"\x03\x05" + wrote(full(249))[2:] + deep + "\x03\x00", api.ErrLong},
		"the 256th is deep":                     {"\x03\x05" + wrote(full(247))[2:] + deep + "\x03\x00", api.ErrDeep},
		"513 bytes":                             {wrote(wide(513)), api.ErrLong},
		"513 bytes and one that is left":        {wrote(wide(513)) + "\x00", api.ErrLong},
		"513 bytes that end too soon":           {wrote(wide(513))[:512], api.ErrShort},
		"a kind, ahead of there being too many": {"\x03\x03" + wrote(wide(513))[2:] + "\x04", api.ErrKind},
		"one byte is left":                      {"\x00\x00", api.ErrForm},
		"a byte is left behind a wrong one":     {"\x04\x00", api.ErrKind},
	} {
		if v, e := Decode([]byte(x.b)); e != x.want || v.Kind != 0 || v.N != 0 || v.S != "" || v.List != nil {
			t.Errorf("Decode, %s: %+v, %v, want %v", name, v, e, x.want)
		}
		r := wire.Read([]byte("\x07" + x.b))
		r.Byte()
		v := Read(r)
		if x.want != api.ErrForm || r.Left() == 0 { // bytes that are left are no error of Read
			if v.Kind != 0 || v.N != 0 || v.S != "" || v.List != nil || r.Err() != x.want {
				t.Errorf("Read, %s: %+v, %v, want %v", name, v, r.Err(), x.want)
			}
		}
	}
	if v, e := Decode([]byte(deep + "\x01\x02")); e != api.OK || !Same(v, nested(num(1), 8)) {
		t.Errorf("Decode of a number in eight lists: %s, %v", Print(v), e)
	}
}

// P3.3: Read goes on from where the reader stands, and reads no further than the value.
func TestReadOneByOne(t *testing.T) {
	var w wire.Writer
	w.Text(strings.Repeat("z", 600))
	for range 3 {
		Write(&w, wide(512))
	}
	w.Byte(7)
	r := wire.Read(w.Bytes())
	r.Text()
	for range 3 {
		if v := Read(r); !Same(v, wide(512)) || r.Err() != api.OK {
			t.Fatalf("Read: %v", r.Err())
		}
	}
	if r.Left() != 1 || r.Byte() != 7 || r.End() != api.OK {
		t.Error("Read read on")
	}
	r.Fail(api.ErrState)
	if v := Read(r); v.Kind != api.Nil || r.Err() != api.ErrState {
		t.Errorf("Read behind an error: %s, %v", Print(v), r.Err())
	}
	short := wire.Read([]byte{3, 2, 1})
	if v := Read(short); v.Kind != api.Nil || v.List != nil || short.Err() != api.ErrShort {
		t.Errorf("Read of what ends too soon: %+v", v)
	}
}

// P3.3: of all short texts of bytes those alone are read that are what a value is written as.
func TestDecodeAll(t *testing.T) {
	alphabet := []byte{0, 1, 2, 3, 4, 0x80}
	tried, read := 0, 0
	var try func(b []byte)
	try = func(b []byte) {
		tried++
		was := bytes.Clone(b)
		v, e := Decode(b)
		if e == api.OK {
			read++
			if got, e := Encode(v); e != api.OK || !bytes.Equal(got, b) {
				t.Errorf("Decode(%x) = %s, whose bytes are %x", b, Print(v), got)
			}
		}
		if !bytes.Equal(b, was) {
			t.Errorf("Decode changed %x", was)
		}
		if len(b) < 6 {
			for _, c := range alphabet {
				try(append(b[:len(b):len(b)], c))
			}
		}
	}
	try(nil)
	if read < 200 || read == tried {
		t.Errorf("%d of %d were read", read, tried)
	}
}

// P1, P3.1, P3.3: whatever the bytes, what is read may be, and is written so.
func TestDecodeAny(t *testing.T) {
	for seed := range 20000 {
		rnd := rand.New(rand.NewSource(int64(seed)))
		b := make([]byte, rnd.Intn(600))
		for i := range b {
			b[i] = byte(rnd.Intn(5))
			if rnd.Intn(50) == 0 {
				b[i] = byte(rnd.Intn(256))
			}
		}
		r := wire.Read(b)
		v := Read(r)
		if e := r.Err(); e != api.OK {
			if v.Kind != api.Nil || v.List != nil {
				t.Errorf("Read of %x: %s beside %v", b, Print(v), e)
			}
			continue
		}
		if got, e := Encode(v); e != api.OK || string(got) != string(b[:r.At()]) {
			t.Errorf("Read of %x: %s, %v", b, Print(v), e)
		}
	}
}
