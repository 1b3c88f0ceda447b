package event

import (
	"bytes"
	"crypto/sha256"
	"math/rand"
	"reflect"
	"strings"
	"testing"

	"foliot/api"
	"foliot/value"
	"foliot/wire"
)

// P9.3, of each kind, as the document lays it.
func TestEncode(t *testing.T) {
	const (
		five = "\x05\xac\x02" // the ID 5, the tick 300
		big  = "\x80\x80\x80\x80\x80\x20"
		name = "\x04name"
		val  = "\x03\x03\x01\x01\x02\x01v\x03\x00"
	)
	for _, x := range []struct {
		e    api.Event
		want string
	}{
		{api.Event{ID: 3, Time: 7, Kind: api.TimerFired, A: 2}, "\x0c\x03\x07\x02"},
		{filled(1), "\x01" + five + "\x07" + big + name + "\x08a \"text\"" + val},
		{filled(2), "\x02" + five + big},
		{filled(3), "\x03" + five + "\x07" + big},
		{filled(4), "\x04" + five + "\x07" + big},
		{filled(5), "\x05" + five + big},
		{filled(6), "\x06" + five + big + name},
		{filled(7), "\x07" + five + "\x07" + big + name + val},
		{filled(8), "\x08" + five + "\x07" + val},
		{filled(9), "\x09" + five + "\x07" + name},
		{filled(10), "\x0a" + five + "\x07"},
		{filled(11), "\x0b" + five + "\x07" + big},
		{filled(12), "\x0c" + five + "\x07"},
		{filled(13), "\x0d" + five + "\x07"},
		{filled(14), "\x0e" + five + name + val},
		{filled(15), "\x0f" + five},
		{filled(16), "\x10" + five + val},
		{filled(17), "\x11" + five + name},
		{filled(18), "\x12" + five},
		{filled(19), "\x13" + five + name},
		{filled(20), "\x14" + five},
		{filled(21), "\x15" + five + big + val},
		{bare(1), "\x01\x01\x00\x00\x00\x00\x00\x00"},
		{bare(21), "\x15\x01\x00\x00\x00"},
	} {
		got, err := Encode(x.e)
		if string(got) != x.want || err != api.OK {
			t.Errorf("Encode of %s: %x, %v, want %x", Print(x.e), got, err, x.want)
		}
		var w wire.Writer
		w.Byte(9)
		Write(&w, x.e)
		if string(w.Bytes()) != "\x09"+x.want {
			t.Errorf("Write of %s: %x", Print(x.e), w.Bytes())
		}
		back, err := Decode([]byte(x.want))
		if err != api.OK || !Same(back, x.e) {
			t.Errorf("Decode of %x: %s, %v", x.want, Print(back), err)
		}
	}
}

// P9.3: of each kind, all that may be is read as it was written; a part of it is too short, and more is too much.
func TestDecode(t *testing.T) {
	allKinds(t, func(kind int, row kindRow) {
		for _, e := range []api.Event{bare(kind), filled(kind), full(kind)} {
			b, _ := Encode(e)
			got, err := Decode(b)
			if err != api.OK || !Same(got, e) {
				t.Errorf("Decode of %s: %+v, %v", row.name, got, err)
			}
			for n := range b {
				if got, err := Decode(b[:n]); err != api.ErrShort || !reflect.DeepEqual(got, api.Event{}) {
					t.Errorf("Decode of %d bytes of %s: %+v, %v", n, row.name, got, err)
				}
			}
			if got, err := Decode(append(bytes.Clone(b), 0)); err != api.ErrForm || !reflect.DeepEqual(got, api.Event{}) {
				t.Errorf("Decode of %s and a byte: %+v, %v", row.name, got, err)
			}
		}
	})
}

// P9.3: what goes wrong, and which error is first.
func TestDecodeErrors(t *testing.T) {
	const (
		maxID     = "\x80\x80\x40"
		maxTime   = "\xff\xff\xff\xff\xff\xff\xff\xff\x3f"
		overTime  = "\x80\x80\x80\x80\x80\x80\x80\x80\x40"
		maxInt    = "\xff\xff\xff\xff\xff\xff\xff\xff\x7f"
		overInt   = "\x80\x80\x80\x80\x80\x80\x80\x80\x80\x01"
		tooGreat  = "\x80\x80\x80\x80\x80\x80\x80\x80\x80\x02"
		otherForm = "\x80\x00"
	)
	long, wide := "\x41"+strings.Repeat("n", 65), "\x81\x01"+strings.Repeat("t", 129)
	for name, x := range map[string]struct {
		b    string
		want api.Errno
	}{
		"nothing":                                   {"", api.ErrShort},
		"the kind 0":                                {"\x00", api.ErrKind},
		"the kind 0 and more":                       {"\x00\x01\x00", api.ErrKind},
		"the kind 22":                               {"\x16\x01\x00", api.ErrKind},
		"the kind 255":                              {"\xff", api.ErrKind},
		"a wrong kind ahead of a wrong ID":          {"\x16" + otherForm, api.ErrKind},
		"a kind alone":                              {"\x0f", api.ErrShort},
		"the greatest ID":                           {"\x0f" + maxID + "\x00", api.OK},
		"a greater ID":                              {"\x0f\x81\x80\x40\x00", api.ErrLong},
		"a greater ID, and no more":                 {"\x0f\x81\x80\x40", api.ErrLong},
		"the ID 0":                                  {"\x0f\x00\x00", api.ErrRange},
		"the ID 0, and a byte that is left":         {"\x0f\x00\x00\x00", api.ErrRange},
		"the ID 0, and no time":                     {"\x0f\x00", api.ErrShort},
		"the ID 0, and a time too late":             {"\x0f\x00" + overTime, api.ErrLong},
		"an ID of another form":                     {"\x0f" + otherForm, api.ErrForm},
		"no time":                                   {"\x0f\x01", api.ErrShort},
		"the last time":                             {"\x0f\x01" + maxTime, api.OK},
		"a later time":                              {"\x0f\x01" + overTime, api.ErrLong},
		"a time of another form":                    {"\x0f\x01" + otherForm, api.ErrForm},
		"the greatest A":                            {"\x0c\x01\x00" + maxInt, api.OK},
		"a greater A":                               {"\x0c\x01\x00" + overInt, api.ErrLong},
		"an A too great for layer 2":                {"\x0c\x01\x00" + tooGreat, api.ErrForm},
		"an A of another form":                      {"\x0c\x01\x00" + otherForm, api.ErrForm},
		"the greatest B":                            {"\x02\x01\x00" + maxInt, api.OK},
		"a greater B":                               {"\x02\x01\x00" + overInt, api.ErrLong},
		"a B of another form":                       {"\x0b\x01\x00\x00" + otherForm, api.ErrForm},
		"the longest name":                          {"\x11\x01\x00\x40" + long[1:65], api.OK},
		"a longer name":                             {"\x11\x01\x00" + long, api.ErrLong},
		"a longer name, and the ID 0":               {"\x11\x00\x00" + long, api.ErrRange},
		"a longer name that ends too soon":          {"\x11\x01\x00" + long[:65], api.ErrShort},
		"a name too long for layer 2":               {"\x11\x01\x00\x81\x20", api.ErrLong},
		"a name's length of another form":           {"\x11\x01\x00" + otherForm, api.ErrForm},
		"a longer name ahead of a wrong value":      {"\x0e\x01\x00" + long + "\x04", api.ErrKind},
		"a longer name ahead of no value":           {"\x0e\x01\x00" + long, api.ErrShort},
		"the longest text":                          {"\x01\x01\x00\x00\x00\x00\x80\x01" + wide[2:130] + "\x00", api.OK},
		"a longer text":                             {"\x01\x01\x00\x00\x00\x00" + wide + "\x00", api.ErrLong},
		"a longer text, and a wrong value":          {"\x01\x01\x00\x00\x00\x00" + wide + "\x04", api.ErrKind},
		"a text that ends too soon":                 {"\x01\x01\x00\x00\x00\x00\x05abc", api.ErrShort},
		"no value":                                  {"\x10\x01\x00", api.ErrShort},
		"a value of no kind":                        {"\x10\x01\x00\x04", api.ErrKind},
		"a value of no kind, and the ID 0":          {"\x10\x00\x00\x04", api.ErrKind},
		"a value too deep":                          {"\x10\x01\x00" + strings.Repeat("\x03\x01", 8) + "\x03\x00", api.ErrDeep},
		"a value's text too long":                   {"\x10\x01\x00\x02\x81\x02" + strings.Repeat("x", 257), api.ErrLong},
		"a value's number of another form":          {"\x10\x01\x00\x01" + otherForm, api.ErrForm},
		"a value where the kind has none":           {"\x0f\x01\x00\x00", api.ErrForm},
		"a byte that is left, behind a longer name": {"\x11\x01\x00" + long + "\x00", api.ErrLong},
	} {
		e, err := Decode([]byte(x.b))
		if err != x.want || (err != api.OK && !reflect.DeepEqual(e, api.Event{})) || (err == api.OK && Check(e) != api.OK) {
			t.Errorf("Decode, %s: %+v, %v, want %v", name, e, err, x.want)
		}
		r := wire.Read([]byte("\x07" + x.b))
		r.Byte()
		e = Read(r)
		if err := r.Err(); err != x.want && r.Left() == 0 || (err != api.OK) != reflect.DeepEqual(e, api.Event{}) {
			t.Errorf("Read, %s: %+v, %v, want %v", name, e, err, x.want)
		}
	}
}

// P9.3: Read goes on from where the reader stands, and reads no further than the event.
func TestReadOneByOne(t *testing.T) {
	var w wire.Writer
	w.Text("ahead")
	allKinds(t, func(kind int, _ kindRow) { Write(&w, full(kind)) })
	w.Byte(7)
	r := wire.Read(w.Bytes())
	r.Text()
	allKinds(t, func(kind int, row kindRow) {
		if e := Read(r); !Same(e, full(kind)) || r.Err() != api.OK {
			t.Fatalf("Read of %s: %v", row.name, r.Err())
		}
	})
	if r.Left() != 1 || r.Byte() != 7 || r.End() != api.OK {
		t.Error("Read read on")
	}
	failed := wire.Read([]byte("\x0c\x03\x07\x02"))
	failed.Fail(api.ErrState)
	if e := Read(failed); !reflect.DeepEqual(e, api.Event{}) || failed.Err() != api.ErrState {
		t.Errorf("Read behind an error: %+v, %v", e, failed.Err())
	}
}

// P9.3, P1: whatever the bytes, what is read may be, and is written so.
func TestDecodeAny(t *testing.T) {
	read := 0
	for seed := range 20000 {
		rnd := rand.New(rand.NewSource(int64(seed)))
		b, _ := Encode(filled(1 + rnd.Intn(21)))
		for range rnd.Intn(4) {
			b[rnd.Intn(len(b))] = byte(rnd.Intn(256) >> rnd.Intn(8))
		}
		was := bytes.Clone(b)
		e, err := Decode(b)
		if !bytes.Equal(b, was) {
			t.Fatalf("what was handed in is changed: %x", was)
		}
		if err != api.OK {
			if !reflect.DeepEqual(e, api.Event{}) {
				t.Errorf("Decode of %x: %+v beside %v", b, e, err)
			}
			continue
		}
		read++
		if got, err := Encode(e); err != api.OK || !bytes.Equal(got, b) {
			t.Errorf("Decode of %x: %s, %v", b, Print(e), err)
		}
	}
	if read < 2000 {
		t.Errorf("%d were read", read)
	}
}

// P9.6.
func TestLink(t *testing.T) {
	prev := api.Sum(sha256.Sum256([]byte("ahead")))
	allKinds(t, func(kind int, row kindRow) {
		b, _ := Encode(filled(kind))
		want := api.Sum(sha256.Sum256(append(prev[:], b...)))
		got, err := Link(prev, filled(kind))
		if got != want || err != api.OK {
			t.Errorf("Link of %s: %x, %v", row.name, got, err)
		}
		prev = got
	})
	for _, x := range []struct {
		e    api.Event
		want api.Errno
	}{
		{api.Event{}, api.ErrKind},
		{api.Event{Kind: api.TimerFired}, api.ErrRange},
		{api.Event{ID: 1, Kind: api.RunFailed, Name: strings.Repeat("n", 65)}, api.ErrLong},
		{api.Event{ID: 1, Kind: api.RunFailed, Text: "t"}, api.ErrForm},
		{api.Event{ID: 1, Kind: api.RunCompleted, Value: nested(9)}, api.ErrDeep},
	} {
		if got, err := Link(prev, x.e); got != (api.Sum{}) || err != x.want {
			t.Errorf("Link: %x, %v, want %v", got, err, x.want)
		}
	}
}

// P2: what is written, read or linked isn't changed, and answers are memory of their own.
func TestBytesMemory(t *testing.T) {
	values := []api.Value{num(1), text("a"), num(7)}
	e := api.Event{ID: 1, Kind: api.RunCompleted, Value: list()}
	e.Value.List = values[:2]
	one, _ := Encode(e)
	two, _ := Encode(e)
	Link(api.Sum{}, e)
	one[0] = 99
	if two[0] != api.RunCompleted || values[2].N != 7 || !value.Same(e.Value, list(num(1), text("a"))) {
		t.Error("Encode")
	}
	f, _ := Decode(two)
	g, _ := Decode(two)
	clear(two)
	f.Value.List[0].N = 5
	if !Same(g, e) {
		t.Error("Decode")
	}
}
