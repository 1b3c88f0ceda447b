package history

import (
	"strings"
	"testing"

	"foliot/api"
	"foliot/value"
	"foliot/wire"
)

// written: a history's bytes.
func written(h *History) []byte {
	var w wire.Writer
	Write(&w, h)
	return w.Bytes()
}

// asTold: the bytes of a history with these events, as the document's words have them, and any sum at the end.
func asTold(t *testing.T, last api.Sum, events ...[]byte) []byte {
	t.Helper()
	b := append([]byte(nil), seed[:]...)
	b = append(b, byte(len(events))) // below 128 a Num is one byte
	for _, e := range events {
		b = append(b, e...)
	}
	return append(b, last[:]...)
}

// read: the history that bytes begin with, and the reader's error.
func read(b []byte) (*History, api.Errno) {
	r := wire.Read(b)
	h := Read(r)
	return h, r.Err()
}

// The bytes of a run-started at 3, and of a signal `go` at 4, by hand.
const (
	startedBytes = "\x01\x01\x03\x00\x00\x01p\x00\x00"
	signalBytes  = "\x0e\x02\x04\x02go\x00"
)

// The chapter's example: a run-started without a name is one byte less than that with `p`.
func TestExample(t *testing.T) {
	h := New(seed)
	if _, code := h.Append(api.Event{Time: 3, Kind: api.RunStarted}, api.Event{Time: 4, Kind: api.SignalReceived, Name: "go"}); code != api.OK {
		t.Fatalf("Append: %v", code)
	}
	if n := h.Bytes(); n != 80 || len(written(h)) != 80 {
		t.Errorf("Bytes: %d, and %d are written", n, len(written(h)))
	}
}

// P18.5.
func TestWrite(t *testing.T) {
	for _, x := range []struct {
		events []api.Event
		bytes  [][]byte
	}{
		{nil, nil},
		{[]api.Event{started(3)}, [][]byte{[]byte(startedBytes)}},
		{[]api.Event{started(3), signal(4)}, [][]byte{[]byte(startedBytes), []byte(signalBytes)}},
	} {
		h := mustNew(t, x.events...)
		want := asTold(t, h.Sum(), x.bytes...)
		if got := written(h); string(got) != string(want) || h.Bytes() != len(want) {
			t.Errorf("Write of %+v: %x, want %x; Bytes: %d", x.events, got, want, h.Bytes())
		}
		var w wire.Writer
		w.Byte(7)
		Write(&w, h)
		w.Byte(8)
		if string(w.Bytes()) != "\x07"+string(want)+"\x08" {
			t.Errorf("Write behind a byte: %x", w.Bytes())
		}
		wantHistory(t, h, numbered(1, x.events...)...)
	}
}

// P18.5: what was written is read, also within other bytes, and goes on as that which was written.
func TestRead(t *testing.T) {
	list := []api.Event{started(3), signal(4), scheduled(1), {Time: 5, Kind: api.SignalReceived, Name: "x", Value: value.List(value.Of(5), value.Text("a"))}, completed(5)}
	for n := range len(list) + 1 {
		h := mustNew(t, list[:n]...)
		b := append(append([]byte{7}, written(h)...), 8, 9)
		r := wire.Read(b)
		r.Byte()
		got := Read(r)
		if got == nil || r.Err() != api.OK || r.Left() != 2 || r.Byte() != 8 {
			t.Fatalf("Read of %d events: %v, %d left", n, r.Err(), r.Left())
		}
		if got.Seed() != seed {
			t.Errorf("Seed: %x", got.Seed())
		}
		wantHistory(t, got, numbered(1, list[:n]...)...)
		for _, e := range []api.Event{started(3), signal(3), signal(4), signal(5), scheduled(0)} {
			if a, b := got.Check(e), h.Check(e); a != b {
				t.Errorf("Check behind Read: %v, want %v", a, b)
			}
		}
		if string(written(got)) != string(written(h)) || got.Bytes() != h.Bytes() {
			t.Error("what was read is written otherwise")
		}
		mustAppend(t, got, list[n:]...)
		wantHistory(t, got, numbered(1, list...)...)
	}
}

// P18.5: as many events as may be, and one more.
func TestReadMany(t *testing.T) {
	h := whole(t)
	b := written(h)
	if string(b[32:34]) != "\x80\x20" || len(b) != h.Bytes() {
		t.Fatalf("the count: %x; Bytes: %d, want %d", b[32:34], h.Bytes(), len(b))
	}
	got, code := read(b)
	if got == nil || code != api.OK {
		t.Fatalf("Read: %v", code)
	}
	wantHistory(t, got, h.All()...)
	b[32]++
	if got, code := read(b); got != nil || code != api.ErrLong {
		t.Errorf("Read of 4097 events: %v", code)
	}
	if got, code := read(b[:34]); got != nil || code != api.ErrLong {
		t.Errorf("Read of 4097 events, of which none is there: %v", code)
	}
}

// P18.5: whatever is missing at the end.
func TestReadShort(t *testing.T) {
	b := written(mustNew(t, started(3), signal(4), completed(5)))
	for n := range b {
		if h, code := read(b[:n]); h != nil || code != api.ErrShort {
			t.Errorf("Read of %d bytes: %v, %v", n, h, code)
		}
	}
}

// P18.5: no byte may be another one: the last sum is that of all ahead of it.
func TestReadSpoiled(t *testing.T) {
	b := written(mustNew(t, started(3), signal(4), completed(5)))
	for at := range b {
		for bit := range 8 {
			c := append([]byte(nil), b...)
			c[at] ^= 1 << bit
			h, code := read(c)
			if h != nil || code == api.OK {
				t.Errorf("Read with another bit %d of byte %d: %v", bit, at, code)
			}
			if inSum := at < 32 || at >= len(b)-32; inSum && code != api.ErrSum {
				t.Errorf("Read with another sum: %v", code)
			}
		}
	}
}

// P18.5: each error, where it is met first.
func TestReadErrors(t *testing.T) {
	const ended = "\x10\x02\x04\x00" // a run-completed at 4, the second event
	long := "\x0e\x02\x04\x41" + strings.Repeat("n", 65) + "\x00"
	for _, x := range []struct {
		what string
		want api.Errno
		list []string
	}{
		{"no kind", api.ErrKind, []string{"\x00"}},
		{"the kind 22", api.ErrKind, []string{startedBytes, "\x16\x02\x04\x00"}},
		{"a number in another form", api.ErrForm, []string{startedBytes, "\x0e\x82\x00\x04\x02go\x00"}},
		{"a long name", api.ErrLong, []string{startedBytes, long}},
		{"a value of no kind", api.ErrKind, []string{startedBytes, "\x0e\x02\x04\x02go\x04"}},
		{"an event without a number", api.ErrRange, []string{"\x01\x00\x03\x00\x00\x01p\x00\x00"}},
		{"a number that isn't the next one", api.ErrChain, []string{startedBytes, "\x0e\x03\x04\x02go\x00"}},
		{"the first number anew", api.ErrChain, []string{startedBytes, startedBytes}},
		{"behind the end", api.ErrClosed, []string{startedBytes, ended, "\x0e\x03\x04\x02go\x00"}},
		{"no run-started first", api.ErrState, []string{"\x0e\x01\x04\x02go\x00"}},
		{"a run-started not first", api.ErrState, []string{startedBytes, "\x01\x02\x03\x00\x00\x01p\x00\x00"}},
		{"early", api.ErrRange, []string{startedBytes, "\x0e\x02\x02\x02go\x00"}},
		{"early, then no kind", api.ErrRange, []string{startedBytes, "\x0e\x02\x02\x02go\x00", "\x00"}},
		{"no kind, then early", api.ErrKind, []string{startedBytes, "\x00", "\x0e\x02\x02\x02go\x00"}},
		{"another sum", api.ErrSum, []string{startedBytes, signalBytes}},
	} {
		var events [][]byte
		for _, s := range x.list {
			events = append(events, []byte(s))
		}
		if h, code := read(asTold(t, api.Sum{5}, events...)); h != nil || code != x.want {
			t.Errorf("%s: %v, %v, want %v", x.what, h, code, x.want)
		}
	}
	if h, code := read(asTold(t, api.Sum{}, []byte(startedBytes))); h != nil || code != api.ErrSum {
		t.Errorf("a sum of noughts: %v", code)
	}
	if h, code := read(asTold(t, api.Sum{5})); h != nil || code != api.ErrSum {
		t.Errorf("no events, and another sum than the seed: %v", code)
	}
	if h, code := read(asTold(t, api.Sum{})[:33]); h != nil || code != api.ErrShort {
		t.Errorf("no sum: %v", code)
	}
}

// P18.5: what was wrong ahead of it stays the reader's error.
func TestReadBehindError(t *testing.T) {
	r := wire.Read(written(mustNew(t, started(3))))
	r.Fail(api.ErrDeep)
	if h := Read(r); h != nil || r.Err() != api.ErrDeep {
		t.Errorf("Read: %v, %v", h, r.Err())
	}
}

// P2: the reader's bytes aren't kept.
func TestReadMemory(t *testing.T) {
	list := numbered(1, started(3), signal(4))
	b := written(mustNew(t, list...))
	h, _ := read(b)
	clear(b)
	wantHistory(t, h, list...)
	other := mustNew(t, list...)
	clear(written(other))
	wantHistory(t, other, list...)
}
