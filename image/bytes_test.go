package image

import (
	"bytes"
	"math/rand"
	"reflect"
	"strings"
	"testing"

	"foliot/api"
)

// P11.3: as the document lays it, each instruction too.
func TestEncode(t *testing.T) {
	for _, x := range []struct {
		p    api.Image
		want string
	}{
		{api.Image{Code: []api.Instr{{Op: Push}, {Op: Return}}, Consts: []api.Value{num(5)}}, "\x00\x01\x01\x0a\x00\x02\x01\x00\x19"},
		{api.Image{Code: []api.Instr{{}}}, "\x00\x00\x00\x01\x00"},
		{api.Image{Code: []api.Instr{{Op: Cat}}, Places: 16}, "\x10\x00\x00\x01\x20"},
		{
			api.Image{
				Code: []api.Instr{{Op: Signal, A: 1}, {Op: Pack, A: 16}, {Op: Store, A: 2}, {Op: Nop}, {Op: Jump, A: 4}},
				Consts: []api.Value{
					{}, num(-1), text("v"), list(num(300), list()),
				},
				Names:  []string{"go", "", "a b"},
				Places: 3,
			},
			"\x03" + "\x04" + "\x00" + "\x01\x01" + "\x02\x01v" + "\x03\x02\x01\xd8\x04\x03\x00" +
				"\x03" + "\x02go" + "\x00" + "\x03a b" +
				"\x05" + "\x16\x01" + "\x1d\x10" + "\x0e\x02" + "\x00" + "\x0b\x04",
		},
		{littered(), "\x00\x02\x00\x01\x0a\x00\x01\x01\x01"},
		{rich(api.Instr{Op: Nop}), "\x04" + tail("\x00")},
		{rich(api.Instr{Op: Push, A: 1}), "\x04" + tail("\x01\x01")},
		{rich(api.Instr{Op: Pop}), "\x04" + tail("\x02")},
		{rich(api.Instr{Op: Dup}), "\x04" + tail("\x03")},
		{rich(api.Instr{Op: Swap}), "\x04" + tail("\x04")},
		{rich(api.Instr{Op: Add}), "\x04" + tail("\x05")},
		{rich(api.Instr{Op: Sub}), "\x04" + tail("\x06")},
		{rich(api.Instr{Op: Mul}), "\x04" + tail("\x07")},
		{rich(api.Instr{Op: Same}), "\x04" + tail("\x08")},
		{rich(api.Instr{Op: Less}), "\x04" + tail("\x09")},
		{rich(api.Instr{Op: Not}), "\x04" + tail("\x0a")},
		{rich(api.Instr{Op: Jump, A: 0}), "\x04" + tail("\x0b\x00")},
		{rich(api.Instr{Op: Unless, A: 4}), "\x04" + tail("\x0c\x04")},
		{rich(api.Instr{Op: Load, A: 3}), "\x04" + tail("\x0d\x03")},
		{rich(api.Instr{Op: Store, A: 2}), "\x04" + tail("\x0e\x02")},
		{rich(api.Instr{Op: Input}), "\x04" + tail("\x0f")},
		{rich(api.Instr{Op: Now}), "\x04" + tail("\x10")},
		{rich(api.Instr{Op: Timer}), "\x04" + tail("\x11")},
		{rich(api.Instr{Op: Wait}), "\x04" + tail("\x12")},
		{rich(api.Instr{Op: Cancel}), "\x04" + tail("\x13")},
		{rich(api.Instr{Op: Call, A: 2}), "\x04" + tail("\x14\x02")},
		{rich(api.Instr{Op: Join}), "\x04" + tail("\x15")},
		{rich(api.Instr{Op: Signal, A: 1}), "\x04" + tail("\x16\x01")},
		{rich(api.Instr{Op: Poll, A: 0}), "\x04" + tail("\x17\x00")},
		{rich(api.Instr{Op: Asked}), "\x04" + tail("\x18")},
		{rich(api.Instr{Op: Return}), "\x04" + tail("\x19")},
		{rich(api.Instr{Op: Fail, A: 1}), "\x04" + tail("\x1a\x01")},
		{rich(api.Instr{Op: Again}), "\x04" + tail("\x1b")},
		{rich(api.Instr{Op: Either, A: 2}), "\x04" + tail("\x1c\x02")},
		{rich(api.Instr{Op: Pack, A: 16}), "\x04" + tail("\x1d\x10")},
		{rich(api.Instr{Op: Item}), "\x04" + tail("\x1e")},
		{rich(api.Instr{Op: Size}), "\x04" + tail("\x1f")},
		{rich(api.Instr{Op: Cat}), "\x04" + tail("\x20")},
	} {
		got, err := Encode(x.p)
		if string(got) != x.want || err != api.OK {
			t.Errorf("Encode of %+v: %x, %v, want %x", x.p, got, err, x.want)
		}
		back, err := Decode([]byte(x.want))
		if !alike(back, x.p) || err != api.OK {
			t.Errorf("Decode of %x: %+v, %v", x.want, back, err)
		}
	}
}

// tail: the bytes of a rich image behind its places, the first instruction being laid so.
func tail(first string) string {
	return "\x02\x01\x0a\x03\x02\x02\x01a\x03\x00" + "\x03\x02go\x00\x02\xff\x00" + "\x05" + first + "\x0f\x01\x01\x02\x19"
}

// littered: an image with fields in its values that don't count.
func littered() api.Image {
	return api.Image{
		Code:   []api.Instr{{Op: Push, A: 1}},
		Consts: []api.Value{{N: 3, S: "s", List: []api.Value{num(1)}}, {Kind: api.Int, N: 5, S: "s", List: []api.Value{num(1)}}},
	}
}

// P11.3: operands of two bytes.
func TestEncodeFarJump(t *testing.T) {
	for _, a := range []int{0, 1, 127, 128, 300, 510, 511} {
		p := api.Image{Code: make([]api.Instr, 512)}
		p.Code[0] = api.Instr{Op: Unless, A: a}
		p.Code[511] = api.Instr{Op: Jump, A: a}
		far := string(rune(a))
		if a > 127 {
			far = string([]byte{byte(a%128 + 128), byte(a / 128)})
		}
		want := "\x00\x00\x00\x80\x04\x0c" + far + strings.Repeat("\x00", 510) + "\x0b" + far
		b, err := Encode(p)
		if string(b) != want || err != api.OK {
			t.Errorf("Encode of a jump to %d: %x, %v", a, b, err)
		}
		if got, err := Decode(b); !alike(got, p) || err != api.OK {
			t.Errorf("Decode of a jump to %d: %v", a, err)
		}
	}
}

// P11.3: all that may be is read as it was written; a part of it is too short, and more is too much.
func TestDecode(t *testing.T) {
	images := []api.Image{full(), littered(), {Code: make([]api.Instr, 1)}}
	for op := range told() {
		images = append(images, rich(api.Instr{Op: op}))
	}
	for i, p := range images {
		b, _ := Encode(p)
		got, err := Decode(b)
		if err != api.OK || !alike(got, p) || Check(got) != api.OK {
			t.Errorf("Decode of the image %d: %v", i, err)
		}
		step := 1 + len(b)/700
		for n := 0; n < len(b); n += step {
			if got, err := Decode(b[:n]); err != api.ErrShort || !reflect.DeepEqual(got, api.Image{}) {
				t.Errorf("Decode of %d bytes of the image %d: %+v, %v", n, i, got, err)
			}
		}
		for _, more := range []string{"\x00", "\x21", "\xff\xff"} {
			if got, err := Decode(append(bytes.Clone(b), more...)); err != api.ErrForm || !reflect.DeepEqual(got, api.Image{}) {
				t.Errorf("Decode of the image %d and more: %+v, %v", i, got, err)
			}
		}
	}
}

// P11.3: what goes wrong, and which error is first.
func TestDecodeErrors(t *testing.T) {
	const otherForm = "\x80\x00"
	long := strings.Repeat("n", 65)
	for name, x := range map[string]struct {
		b    string
		want api.Errno
	}{
		"nothing":                                {"", api.ErrShort},
		"16 places":                              {"\x10\x00\x00\x01\x00", api.OK},
		"17 places":                              {"\x11\x00\x00\x01\x00", api.ErrLong},
		"17 places, and no more":                 {"\x11", api.ErrLong},
		"places of another form":                 {otherForm + "\x00\x00\x01\x00", api.ErrForm},
		"places of two bytes":                    {"\x80\x01\x00\x00\x01\x00", api.ErrLong},
		"64 values":                              {"\x00\x40" + strings.Repeat("\x00", 64) + "\x00\x01\x00", api.OK},
		"65 values":                              {"\x00\x41" + strings.Repeat("\x00", 65) + "\x00\x01\x00", api.ErrLong},
		"65 values, and no more":                 {"\x00\x41", api.ErrLong},
		"65 values ahead of a wrong kind":        {"\x00\x41\x09", api.ErrLong},
		"a count of values of another form":      {"\x00" + otherForm, api.ErrForm},
		"a value too few":                        {"\x00\x02\x00", api.ErrShort},
		"a value of no kind":                     {"\x00\x01\x04\x00\x01\x00", api.ErrKind},
		"a value of no kind ahead of 33 names":   {"\x00\x01\x04\x21", api.ErrKind},
		"a value too deep":                       {"\x00\x01" + strings.Repeat("\x03\x01", 8) + "\x03\x00", api.ErrDeep},
		"a value's text too long":                {"\x00\x01\x02\x81\x02" + strings.Repeat("x", 257), api.ErrLong},
		"a value's number of another form":       {"\x00\x01\x01" + otherForm, api.ErrForm},
		"32 names":                               {"\x00\x00\x20" + strings.Repeat("\x00", 32) + "\x01\x00", api.OK},
		"33 names":                               {"\x00\x00\x21" + strings.Repeat("\x00", 33) + "\x01\x00", api.ErrLong},
		"33 names, and no more":                  {"\x00\x00\x21", api.ErrLong},
		"a count of names of another form":       {"\x00\x00" + otherForm, api.ErrForm},
		"a name too few":                         {"\x00\x00\x02\x01a", api.ErrShort},
		"a name that ends too soon":              {"\x00\x00\x01\x05abc", api.ErrShort},
		"a name's length of another form":        {"\x00\x00\x01" + otherForm, api.ErrForm},
		"a name too long for layer 2":            {"\x00\x00\x01\x81\x20", api.ErrLong},
		"a name of 64 bytes":                     {"\x00\x00\x01\x40" + long[1:] + "\x01\x00", api.OK},
		"a name of 65 bytes":                     {"\x00\x00\x01\x41" + long + "\x01\x00", api.ErrLong},
		"a name of 65 bytes, and a wrong byte":   {"\x00\x00\x01\x41" + long + "\x01\x21", api.ErrOp},
		"a name of 65 bytes, and no code":        {"\x00\x00\x01\x41" + long + "\x00", api.ErrShort},
		"a name of 65 bytes, and it ends there":  {"\x00\x00\x01\x41" + long, api.ErrShort},
		"a name of 65 bytes, and a byte left":    {"\x00\x00\x01\x41" + long + "\x01\x00\x00", api.ErrForm},
		"no code":                                {"\x00\x00\x00\x00", api.ErrShort},
		"no code, and a byte left":               {"\x00\x00\x00\x00\x00", api.ErrForm},
		"no count of code":                       {"\x00\x00\x00", api.ErrShort},
		"512 instructions":                       {"\x00\x00\x00\x80\x04" + strings.Repeat("\x00", 512), api.OK},
		"513 instructions":                       {"\x00\x00\x00\x81\x04" + strings.Repeat("\x00", 513), api.ErrLong},
		"513 instructions, and no more":          {"\x00\x00\x00\x81\x04", api.ErrLong},
		"a count of code of another form":        {"\x00\x00\x00" + otherForm, api.ErrForm},
		"an instruction too few":                 {"\x00\x00\x00\x02\x00", api.ErrShort},
		"the instruction 32":                     {"\x00\x00\x00\x01\x20", api.OK},
		"the instruction 33":                     {"\x00\x00\x00\x01\x21", api.ErrOp},
		"the instruction 255":                    {"\x00\x00\x00\x01\xff", api.ErrOp},
		"a wrong one ahead of another error":     {"\x00\x00\x00\x02\x21\x0b\x81\x04", api.ErrOp},
		"a wrong one behind another error":       {"\x00\x00\x00\x02\x0b\x81\x04\x21", api.ErrLong},
		"a wrong one, and a byte left":           {"\x00\x00\x00\x01\x21\x00", api.ErrOp},
		"no operand":                             {"\x00\x00\x00\x01\x0b", api.ErrShort},
		"an operand of another form":             {"\x00\x00\x00\x01\x0b" + otherForm, api.ErrForm},
		"an operand of 512":                      {"\x00\x00\x00\x01\x0b\x80\x04", api.ErrRange},
		"an operand of 513":                      {"\x00\x00\x00\x01\x0b\x81\x04", api.ErrLong},
		"an operand of 513, and a byte left":     {"\x00\x00\x00\x01\x0b\x81\x04\x00", api.ErrLong},
		"an operand of 512, and a byte left":     {"\x00\x00\x00\x01\x0b\x80\x04\x00", api.ErrForm},
		"a pack of 16":                           {"\x00\x00\x00\x01\x1d\x10", api.OK},
		"a pack of 17":                           {"\x00\x00\x00\x01\x1d\x11", api.ErrRange},
		"a pack of 513":                          {"\x00\x00\x00\x01\x1d\x81\x04", api.ErrLong},
		"a value that isn't there":               {"\x00\x00\x00\x01\x01\x00", api.ErrRange},
		"a name that isn't there":                {"\x00\x00\x01\x01a\x01\x16\x01", api.ErrRange},
		"a place that isn't there":               {"\x02\x00\x00\x01\x0d\x02", api.ErrRange},
		"an instruction that isn't there":        {"\x00\x00\x00\x02\x0b\x02\x00", api.ErrRange},
		"an operand where there is none":         {"\x00\x00\x00\x01\x02\x00", api.ErrForm},
		"a value of the document's":              {"\x00\x01\x01\x0a\x00\x02\x01\x00\x19", api.OK},
		"a value of the document's, and one too": {"\x00\x01\x01\x0a\x00\x02\x01\x01\x19", api.ErrRange},
	} {
		p, err := Decode([]byte(x.b))
		if err != x.want || (err != api.OK && !reflect.DeepEqual(p, api.Image{})) || (err == api.OK && Check(p) != api.OK) {
			t.Errorf("Decode, %s: %+v, %v, want %v", name, p, err, x.want)
		}
	}
}

// P1, P11.3: whatever the bytes, what is read may be, and is written so.
func TestDecodeAny(t *testing.T) {
	read := 0
	for seed := range 20000 {
		rnd := rand.New(rand.NewSource(int64(seed)))
		b, _ := Encode(rich(api.Instr{Op: rnd.Intn(33)}))
		for range rnd.Intn(4) {
			b[rnd.Intn(len(b))] = byte(rnd.Intn(256) >> rnd.Intn(8))
		}
		was := bytes.Clone(b)
		p, err := Decode(b)
		if !bytes.Equal(b, was) {
			t.Fatalf("what was handed in is changed: %x", was)
		}
		if err != api.OK {
			if !reflect.DeepEqual(p, api.Image{}) {
				t.Errorf("Decode of %x: %+v beside %v", b, p, err)
			}
			continue
		}
		read++
		if got, err := Encode(p); err != api.OK || !bytes.Equal(got, b) {
			t.Errorf("Decode of %x: %x, %v", b, got, err)
		}
	}
	if read < 2000 {
		t.Errorf("%d were read", read)
	}
}

// P1: bytes of no image at all.
func TestDecodeNoise(t *testing.T) {
	for seed := range 5000 {
		rnd := rand.New(rand.NewSource(int64(seed)))
		b := make([]byte, rnd.Intn(60))
		for i := range b {
			b[i] = byte(rnd.Intn(256) >> rnd.Intn(8))
		}
		p, err := Decode(b)
		again, err2 := Decode(b)
		if err != err2 || !reflect.DeepEqual(p, again) || (err == api.OK) != (len(p.Code) > 0) {
			t.Errorf("Decode of %x: %+v, %v", b, p, err)
		}
	}
}

// P1: whatever the image, each call ends, and answers the same once more.
func TestAnyImage(t *testing.T) {
	values := []api.Value{{}, num(1), {Kind: 77, N: 3}, {Kind: -1}, endless(), nested(20), list(make([]api.Value, 300)...), text(strings.Repeat("x", 9000))}
	may := 0
	for seed := range 4000 {
		rnd := rand.New(rand.NewSource(int64(seed)))
		p := api.Image{Places: rnd.Intn(22) - 3}
		for range rnd.Intn(3) {
			p.Consts = append(p.Consts, values[rnd.Intn(len(values))>>rnd.Intn(3)])
		}
		for range rnd.Intn(3) {
			p.Names = append(p.Names, strings.Repeat("n", rnd.Intn(70)))
		}
		for range rnd.Intn(4) {
			p.Code = append(p.Code, api.Instr{Op: rnd.Intn(36) - 1, A: (rnd.Intn(20) - 1) >> rnd.Intn(6)})
		}
		want := Check(p)
		b, err := Encode(p)
		program, err2 := New("n", p)
		if err != want || err2 != want || (want == api.OK) != (program != nil) || (want == api.OK) != (len(b) > 0) {
			t.Fatalf("%+v: %v, %v, %v", p, want, err, err2)
		}
		cloned := Clone(p)
		if len(cloned.Code) != len(p.Code) || len(cloned.Consts) != len(p.Consts) || len(cloned.Names) != len(p.Names) {
			t.Fatalf("Clone of %+v", p)
		}
		if want != api.OK {
			continue
		}
		may++
		if got, err := Decode(b); err != api.OK || !alike(got, p) {
			t.Fatalf("%+v: %+v, %v", p, got, err)
		}
	}
	if may < 200 {
		t.Errorf("%d may be", may)
	}
}
