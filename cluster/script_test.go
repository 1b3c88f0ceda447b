package cluster

import (
	"bytes"
	"math"
	"math/rand"
	"reflect"
	"slices"
	"strings"
	"testing"

	"foliot/api"
	"foliot/event"
	"foliot/value"
	"foliot/wire"
)

// written: the bytes of steps, one behind the other.
func written(list ...Step) []byte {
	var w wire.Writer
	for _, s := range list {
		Write(&w, s)
	}
	return w.Bytes()
}

// wantRead: bytes are a step, and nothing is left of them.
func wantRead(t *testing.T, b []byte, want Step) {
	t.Helper()
	r := wire.Read(b)
	if got := Read(r); !reflect.DeepEqual(got, want) || r.End() != api.OK {
		t.Fatalf("Read of %x: %+v, %v, want %+v", b, got, r.End(), want)
	}
}

// wantUnread: bytes aren't a step.
func wantUnread(t *testing.T, b []byte, code api.Errno) {
	t.Helper()
	r := wire.Read(b)
	if got := Read(r); !reflect.DeepEqual(got, Step{}) || r.Err() != code {
		t.Fatalf("Read of %x: %+v, %v, want %v", b, got, r.Err(), code)
	}
	// Behind an error nothing is read any more, and it stays.
	if got := Read(r); !reflect.DeepEqual(got, Step{}) || r.Err() != code {
		t.Fatalf("Read behind an error: %+v, %v, want %v", got, r.Err(), code)
	}
}

// P26.6: steps as bytes, laid by hand.
func TestBytes(t *testing.T) {
	zero := []byte{0, 0, 0, 0, 0, 0, 0, 0}
	if got := written(Step{}); !bytes.Equal(got, zero) {
		t.Errorf("the zero step: %x", got)
	}
	wantRead(t, zero, Step{})
	s := Step{Kind: Tick, Worker: 8, Name: "ab", Text: "c", Again: "*", N: -2, Keep: 300, Value: value.List(value.Of(1), value.Text("x"))}
	b := []byte{17, 8, 2, 'a', 'b', 1, 'c', 1, '*', 3, 0xac, 2, 3, 2, 1, 2, 2, 1, 'x'}
	if got := written(s); !bytes.Equal(got, b) {
		t.Errorf("%+v: %x", s, got)
	}
	wantRead(t, b, s)
	// What was written stays ahead of it.
	var w wire.Writer
	w.Text("z")
	Write(&w, s)
	Write(&w, Step{Kind: 255})
	if got := w.Bytes(); !bytes.Equal(got, slices.Concat([]byte{1, 'z'}, b, []byte{255, 0, 0, 0, 0, 0, 0, 0})) {
		t.Errorf("two steps: %x", got)
	}
	r := wire.Read(w.Bytes())
	if r.Text() != "z" || !reflect.DeepEqual(Read(r), s) || !reflect.DeepEqual(Read(r), Step{Kind: 255}) || r.End() != api.OK {
		t.Error("two steps: read otherwise")
	}
}

// P26.6: numbers beyond the ends are written as the nearer end.
func TestWriteEnds(t *testing.T) {
	for _, x := range []struct{ worker, keep, asWorker, asKeep int }{
		{math.MinInt, math.MinInt, 0, 0}, {-1, -1, 0, 0}, {0, 0, 0, 0}, {1, 1, 1, 1}, {7, 4095, 7, 4095},
		{8, 4096, 8, 4096}, {9, 4097, 8, 4096}, {math.MaxInt, math.MaxInt, 8, 4096},
	} {
		wantRead(t, written(Step{Kind: Take, Worker: x.worker, Keep: x.keep}), Step{Kind: Take, Worker: x.asWorker, Keep: x.asKeep})
	}
	for _, n := range []int64{math.MinInt64, -1, 0, 1, math.MaxInt64} {
		wantRead(t, written(Step{N: n}), Step{N: n})
	}
	for kind := range 256 {
		wantRead(t, written(Step{Kind: kind}), Step{Kind: kind})
	}
}

// P26.6: how long texts may be.
func TestReadLong(t *testing.T) {
	text := func(n int) string { return strings.Repeat("x", n) }
	most := Step{Kind: Start, Name: text(MaxName), Text: text(MaxName), Again: text(event.MaxText)}
	wantRead(t, written(most), most)
	for _, change := range []func(*Step){
		func(s *Step) { s.Name += "x" }, func(s *Step) { s.Text += "x" }, func(s *Step) { s.Again += "x" },
		func(s *Step) { s.Name = text(4096) }, func(s *Step) { s.Text = text(4096) }, func(s *Step) { s.Again = text(4096) },
		func(s *Step) { s.Name = text(4097) }, func(s *Step) { s.Text = text(5000) }, func(s *Step) { s.Again = text(1 << 16) },
	} {
		s := most
		change(&s)
		wantUnread(t, written(s), api.ErrLong)
	}
	// That comes behind all else that is wrong with a step.
	long := written(Step{Name: text(65)})
	wantUnread(t, append(slices.Clone(long[:len(long)-1]), 4), api.ErrKind)
	wantUnread(t, long[:len(long)-1], api.ErrShort)
	wantUnread(t, append(slices.Clone(long[:len(long)-2]), 0x80, 0, 0), api.ErrForm)
}

// P26.6: what can't be read.
func TestReadErrors(t *testing.T) {
	s := Step{Kind: Start, Worker: 3, Name: "name", Text: "text", Again: "again", N: 1 << 40, Keep: 999, Value: value.List(value.Text("abc"), value.Of(-1))}
	b := written(s)
	wantRead(t, b, s)
	for n := range b {
		wantUnread(t, b[:n], api.ErrShort)
	}
	for _, x := range []struct {
		b    []byte
		code api.Errno
	}{
		{[]byte{1, 9, 0, 0, 0, 0, 0, 0}, api.ErrLong},
		{[]byte{1, 0x88, 0, 0, 0, 0, 0, 0, 0}, api.ErrForm},
		{[]byte{1, 0, 0, 0, 0, 0, 0x80, 0x20, 0}, api.OK},
		{[]byte{1, 0, 0, 0, 0, 0, 0x81, 0x20, 0}, api.ErrLong},
		{[]byte{1, 0, 0x81, 0x20}, api.ErrLong},
		{[]byte{1, 0, 0, 0, 0, 0, 0, 4}, api.ErrKind},
		{[]byte{1, 0, 0, 0, 0, 0, 0, 3, 65}, api.ErrLong},
		{[]byte{1, 0, 0, 0, 0, 0, 0, 3, 1, 3, 1, 3, 1, 3, 1, 3, 1, 3, 1, 3, 1, 3, 1, 3, 1, 0}, api.ErrDeep},
		{[]byte{1, 0, 0, 0, 0, 0xff, 0xff, 0xff, 0xff, 0xff, 0xff, 0xff, 0xff, 0xff, 2, 0, 0}, api.ErrForm},
		// The first that is met.
		{[]byte{1, 9, 0x80, 0}, api.ErrLong},
		{[]byte{1, 0, 0x80, 0, 0, 0, 0, 0, 9}, api.ErrForm},
	} {
		if x.code == api.OK {
			wantRead(t, x.b, Step{Kind: 1, Keep: 4096})
			continue
		}
		wantUnread(t, x.b, x.code)
	}
	r := wire.Read(b)
	r.Fail(api.ErrOther)
	if got := Read(r); !reflect.DeepEqual(got, Step{}) || r.Err() != api.ErrOther {
		t.Errorf("Read behind an error: %+v, %v", got, r.Err())
	}
}

// P1: any values are written, and any bytes are read.
func TestRaw(t *testing.T) {
	list := []api.Value{{}}
	list[0] = api.Value{Kind: api.List, List: list}
	for _, v := range []api.Value{{Kind: -1}, {Kind: 300}, {Kind: api.Text, S: strings.Repeat("x", 5000)}, list[0]} {
		written(Step{Value: v})
		fresh(t).Do(Step{Kind: Start, Name: "w", Text: "quick", Value: v})
	}
	r := rand.New(rand.NewSource(26))
	for range 3000 {
		b := make([]byte, r.Intn(40))
		r.Read(b)
		for i := range b {
			if r.Intn(3) > 0 {
				b[i] %= 9
			}
		}
		x := wire.Read(b)
		if s := Read(x); x.Err() == api.OK {
			n := x.At()
			if got := written(s); !bytes.Equal(got, b[:n]) {
				t.Fatalf("%x is %+v, which is %x", b[:n], s, got)
			}
		} else if !reflect.DeepEqual(s, Step{}) {
			t.Fatalf("%x: %+v beside an error", b, s)
		}
	}
}

// P26.6: steps are done one behind the other, up to one that can't be read.
func TestPlay(t *testing.T) {
	steps := []Step{
		{Kind: Start, Name: "w", Text: "sleep"}, {Kind: Work, Worker: 1}, {Kind: Done, Worker: 1}, {Kind: Tick, N: 5},
		{Kind: 99, Worker: 1}, {Kind: Describe, Name: "w"}, {Kind: Fuse, N: 1}, {Kind: Work, Worker: 2, Keep: 1}, {Kind: Query, Name: "w"},
	}
	want := []Reply{
		{N: 1}, {N: 1, Value: value.Of(1)}, {Code: api.ErrMissing}, {N: 5},
		{Code: api.ErrKind}, {N: 1, Value: five(7, 0, 0, 0, 1)}, {}, {Code: api.ErrMissing}, {N: 5, Value: value.Text("")},
	}
	script := written(steps...)
	kept := slices.Clone(script)
	c := fresh(t)
	if got := c.Play(script); !reflect.DeepEqual(got, want) {
		t.Fatalf("Play: %+v, want %+v", got, want)
	}
	if !bytes.Equal(script, kept) {
		t.Error("Play changed the script")
	}
	other := fresh(t)
	for _, s := range steps {
		other.Do(s)
	}
	if x := differs(told(c), told(other)); x != "" {
		t.Errorf("Play: not as if each were done: %s", x)
	}
	// The script goes on where it was.
	if got := c.Play(written(Step{Kind: Tick})); !reflect.DeepEqual(got, []Reply{{N: 5}}) {
		t.Errorf("Play: %+v", got)
	}
	for _, b := range [][]byte{nil, {}} {
		if got := c.Play(b); len(got) != 0 {
			t.Errorf("Play of nothing: %+v", got)
		}
	}
	for n := range written(steps[0]) {
		c = fresh(t)
		b := append(written(steps[:3]...), script[:n]...)
		wantEnd := want[:3:3]
		if n > 0 {
			wantEnd = append(wantEnd, Reply{Code: api.ErrShort})
		}
		if got := c.Play(b); !reflect.DeepEqual(got, wantEnd) {
			t.Fatalf("Play: %+v, want %+v", got, wantEnd)
		}
	}
	// Behind a step that can't be read none is done.
	for _, x := range []struct {
		b    []byte
		code api.Errno
	}{{[]byte{1, 9}, api.ErrLong}, {written(Step{Name: strings.Repeat("x", 65)}), api.ErrLong}, {[]byte{1, 0, 0, 0, 0, 0, 0, 4}, api.ErrKind}, {[]byte{1, 0x80, 0}, api.ErrForm}} {
		c = fresh(t)
		b := slices.Concat(written(steps[0]), x.b, written(steps[1], Step{Kind: Tick, N: 5}))
		if got := c.Play(b); !reflect.DeepEqual(got, []Reply{{N: 1}, {Code: x.code}}) || c.Engine().Now() != 0 {
			t.Fatalf("Play: %+v", got)
		}
	}
}
