package command

import (
	"bytes"
	"math/rand"
	"slices"
	"strings"
	"testing"

	"foliot/api"
	"foliot/value"
)

// P10.3, of each kind, as the document lays it.
func TestEncode(t *testing.T) {
	const (
		at   = "\xac\x02" // the tick 300
		big  = "\x80\x80\x80\x80\x80\x20"
		name = "\x04name"
		val  = "\x03\x03\x01\x01\x02\x01v\x03\x00"
	)
	for _, x := range []struct {
		list []api.Command
		want string
	}{
		{nil, "\x00"},
		{[]api.Command{{Kind: api.StartTimer, Time: 4, A: 1, B: 5}}, "\x01\x01\x04\x01\x05"},
		{[]api.Command{filled(1)}, "\x01\x01" + at + "\x07" + big},
		{[]api.Command{filled(2)}, "\x01\x02" + at + "\x07"},
		{[]api.Command{filled(3)}, "\x01\x03" + at + "\x07" + big + name + val},
		{[]api.Command{filled(4)}, "\x01\x04" + at + val},
		{[]api.Command{filled(5)}, "\x01\x05" + at + name},
		{[]api.Command{filled(6)}, "\x01\x06" + at + val},
		{[]api.Command{bare(3), bare(6)}, "\x02\x03\x00\x00\x00\x00\x00\x06\x00\x00"},
		{slices.Repeat([]api.Command{bare(2)}, 256), "\x80\x02" + strings.Repeat("\x02\x00\x00", 256)},
	} {
		was := slices.Clone(x.list)
		got, e := Encode(x.list...)
		if string(got) != x.want || e != api.OK {
			t.Errorf("Encode of %d commands: %x, %v, want %x", len(x.list), got, e, x.want)
		}
		if !slices.EqualFunc(x.list, was, Same) {
			t.Error("what was handed in is changed")
		}
		back, e := Decode([]byte(x.want))
		if e != api.OK || !slices.EqualFunc(back, x.list, Same) {
			t.Errorf("Decode of %x: %+v, %v", x.want, back, e)
		}
	}
}

// P10.3: what may be is read as it was written; a part of it is too short, and more is too much.
func TestDecode(t *testing.T) {
	lists := [][]api.Command{{}, {full(1), full(2), full(3), full(4)}, {filled(3), bare(1), filled(2), filled(5)}}
	allKinds(t, func(kind int, _ kindRow) {
		lists = append(lists, []api.Command{bare(kind)}, []api.Command{filled(kind)}, []api.Command{full(kind)})
	})
	for _, l := range lists {
		b, _ := Encode(l...)
		got, e := Decode(b)
		if e != api.OK || !slices.EqualFunc(got, l, Same) {
			t.Errorf("Decode of %x: %+v, %v", b, got, e)
		}
		for n := range b {
			if got, e := Decode(b[:n]); e != api.ErrShort || len(got) != 0 {
				t.Errorf("Decode of %d bytes of %x: %+v, %v", n, b, got, e)
			}
		}
		if got, e := Decode(append(bytes.Clone(b), 0)); e != api.ErrForm || len(got) != 0 {
			t.Errorf("Decode of %x and a byte: %+v, %v", b, got, e)
		}
	}
}

// P10.3: what goes wrong, and which error is first.
func TestDecodeErrors(t *testing.T) {
	const (
		maxTime   = "\xff\xff\xff\xff\xff\xff\xff\xff\x3f"
		overTime  = "\x80\x80\x80\x80\x80\x80\x80\x80\x40"
		maxInt    = "\xff\xff\xff\xff\xff\xff\xff\xff\x7f"
		overInt   = "\x80\x80\x80\x80\x80\x80\x80\x80\x80\x01"
		otherForm = "\x80\x00"
		timer     = "\x02\x00\x00"
		end       = "\x04\x00\x00"
	)
	long := "\x41" + strings.Repeat("n", 65)
	for name, x := range map[string]struct {
		b    string
		want api.Errno
	}{
		"nothing":                              {"", api.ErrShort},
		"none":                                 {"\x00", api.OK},
		"none, and a byte that is left":        {"\x00\x01", api.ErrForm},
		"a count of another form":              {otherForm, api.ErrForm},
		"a count without an end":               {"\x80", api.ErrShort},
		"257":                                  {"\x81\x02" + strings.Repeat(timer, 257), api.ErrLong},
		"257, none there":                      {"\x81\x02", api.ErrLong},
		"4096":                                 {"\x80\x20", api.ErrLong},
		"2^63":                                 {overInt, api.ErrLong},
		"256, none there":                      {"\x80\x02", api.ErrShort},
		"the kind 0":                           {"\x01\x00", api.ErrKind},
		"the kind 7":                           {"\x01\x07\x00\x00", api.ErrKind},
		"the kind 255":                         {"\x01\xff", api.ErrKind},
		"a wrong kind ahead of a wrong time":   {"\x01\x07" + otherForm, api.ErrKind},
		"the second's kind":                    {"\x02" + timer + "\x07", api.ErrKind},
		"a kind alone":                         {"\x01\x02", api.ErrShort},
		"the last time":                        {"\x01\x02" + maxTime + "\x00", api.OK},
		"a later time":                         {"\x01\x02" + overTime + "\x00", api.ErrLong},
		"a later time, and no more":            {"\x01\x02" + overTime, api.ErrLong},
		"a time of another form":               {"\x01\x02" + otherForm, api.ErrForm},
		"the greatest A":                       {"\x01\x02\x00" + maxInt, api.OK},
		"a greater A":                          {"\x01\x02\x00" + overInt, api.ErrLong},
		"an A of another form":                 {"\x01\x02\x00" + otherForm, api.ErrForm},
		"the greatest B":                       {"\x01\x01\x00\x00" + maxInt, api.OK},
		"a greater B":                          {"\x01\x01\x00\x00" + overInt, api.ErrLong},
		"a B of another form":                  {"\x01\x01\x00\x00" + otherForm, api.ErrForm},
		"the longest name":                     {"\x01\x05\x00\x40" + long[1:65], api.OK},
		"a longer name":                        {"\x01\x05\x00" + long, api.ErrLong},
		"a longer name ahead of what is wrong": {"\x02\x05\x00" + long + "\x07", api.ErrLong},
		"a longer name ahead of what isn't there":     {"\x02\x05\x00" + long, api.ErrLong},
		"a longer name ahead of a byte that is left":  {"\x01\x05\x00" + long + "\x00", api.ErrLong},
		"a longer name that ends too soon":            {"\x01\x05\x00" + long[:65], api.ErrShort},
		"a longer name ahead of a wrong value":        {"\x01\x03\x00\x00\x00" + long + "\x04", api.ErrKind},
		"a longer name ahead of a right value":        {"\x01\x03\x00\x00\x00" + long + "\x00", api.ErrLong},
		"a name too long for layer 2":                 {"\x01\x05\x00\x81\x20", api.ErrLong},
		"no value":                                    {"\x01\x04\x00", api.ErrShort},
		"a value of no kind":                          {"\x01\x04\x00\x04", api.ErrKind},
		"a value too deep":                            {"\x01\x04\x00" + strings.Repeat("\x03\x01", 8) + "\x03\x00", api.ErrDeep},
		"a value's text too long":                     {"\x01\x06\x00\x02\x81\x02" + strings.Repeat("x", 257), api.ErrLong},
		"an end too early":                            {"\x02" + end + timer, api.ErrState},
		"an end too early, ahead of a byte left":      {"\x02" + end + timer + "\x00", api.ErrForm},
		"an end too early, ahead of a wrong kind":     {"\x02" + end + "\x07", api.ErrKind},
		"an end too early, ahead of what isn't there": {"\x02" + end, api.ErrShort},
		"an end at the end":                           {"\x02" + timer + end, api.OK},
		"256, the last but one an end":                {"\x80\x02" + strings.Repeat(timer, 254) + end + timer, api.ErrState},
	} {
		list, e := Decode([]byte(x.b))
		if e != x.want || e != api.OK && len(list) != 0 || e == api.OK && All(list...) != api.OK {
			t.Errorf("Decode, %s: %+v, %v, want %v", name, list, e, x.want)
		}
	}
}

// P10.3, P1: whatever the bytes, what is read may be, and is written so.
func TestDecodeAny(t *testing.T) {
	read := 0
	for seed := range 20000 {
		rnd := rand.New(rand.NewSource(int64(seed)))
		var l []api.Command
		for range rnd.Intn(4) {
			l = append(l, filled(1+rnd.Intn(3)))
		}
		b, _ := Encode(append(l, filled(1+rnd.Intn(6)))...)
		for range rnd.Intn(4) {
			b[rnd.Intn(len(b))] = byte(rnd.Intn(256) >> rnd.Intn(8))
		}
		was := bytes.Clone(b)
		list, e := Decode(b)
		if !bytes.Equal(b, was) {
			t.Fatalf("what was handed in is changed: %x", was)
		}
		if e != api.OK {
			if len(list) != 0 {
				t.Errorf("Decode of %x: %+v beside %v", b, list, e)
			}
			continue
		}
		read++
		if got, e := Encode(list...); e != api.OK || !bytes.Equal(got, b) {
			t.Errorf("Decode of %x: %d commands, %v", b, len(list), e)
		}
	}
	if read < 2000 {
		t.Errorf("%d were read", read)
	}
}

// P2: answers are memory of their own, and nothing that is handed in is kept.
func TestBytesMemory(t *testing.T) {
	c := filled(api.Complete)
	one, _ := Encode(c)
	two, _ := Encode(c)
	one[1] = 99
	if two[1] != api.Complete {
		t.Error("Encode")
	}
	f, _ := Decode(two)
	g, _ := Decode(two)
	clear(two)
	f[0].Value.List[0].N = 5
	if len(g) != 1 || !Same(g[0], c) || !value.Same(c.Value, filled(api.Complete).Value) {
		t.Error("Decode")
	}
}
