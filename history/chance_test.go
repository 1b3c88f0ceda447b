package history

import (
	"math/rand"
	"testing"

	"foliot/api"
	"foliot/event"
	"foliot/value"
)

// told is a run's events as layer 18's words tell of them: looked through from end to end.
type told []api.Event

// next: what is wrong with an event as the next one.
func (m told) next(e api.Event) api.Errno {
	if len(m) == 4096 {
		return api.ErrFull
	}
	if e.ID != 0 && e.ID != len(m)+1 {
		return api.ErrChain
	}
	e.ID = len(m) + 1
	if code := event.Check(e); code != api.OK {
		return code
	}
	if len(m) > 0 && m[len(m)-1].Kind >= 16 {
		return api.ErrClosed
	}
	if len(m) == 0 && e.Kind != 1 || len(m) > 0 && e.Kind == 1 {
		return api.ErrState
	}
	for i := len(m) - 1; i >= 0 && event.Outside(e); i-- {
		if event.Outside(m[i]) {
			if e.Time < m[i].Time {
				return api.ErrRange
			}
			break
		}
	}
	return api.OK
}

// follow: the events with more of them behind, or what is wrong with these.
func (m told) follow(list ...api.Event) (told, api.Errno) {
	all := append(told(nil), m...)
	for _, e := range list {
		if code := all.next(e); code != api.OK {
			return m, code
		}
		e.ID = len(all) + 1
		all = append(all, e)
	}
	return all, api.OK
}

// anEvent: one that may often follow n others, the last of which was at about that tick.
func anEvent(r *rand.Rand, n int, now int64) api.Event {
	kinds := []int{api.TaskScheduled, api.TaskStarted, api.TaskCompleted, api.TimerStarted, api.TimerFired, api.SignalReceived, api.CancelRequested}
	e := api.Event{Kind: kinds[r.Intn(len(kinds))], Time: now + r.Int63n(4)}
	if n == 0 {
		e.Kind = api.RunStarted
	}
	if e.Kind == api.SignalReceived && r.Intn(2) == 0 {
		e.Name, e.Value = "go", value.List(value.Of(r.Int63n(1000)), value.Text("x"))
	}
	switch r.Intn(12) {
	case 0:
		e.ID = n + 1
	case 1:
		e.ID = n + r.Intn(3)
	case 2:
		e.Time = now - r.Int63n(5)
	case 3:
		e.Kind = r.Intn(24) - 1
	case 4:
		e.A = r.Int63n(3) - 1
	}
	return e
}

// P18.1 to P18.5: steps by chance, against the document's words.
func TestSteps(t *testing.T) {
	r := rand.New(rand.NewSource(18))
	seen := map[api.Errno]int{}
	for range 150 {
		h, m := New(seed), told(nil)
		for range 60 {
			if r.Intn(8) == 0 {
				n := r.Intn(len(m)+3) - 1
				code := h.Cut(n)
				if wrong := n < 0 || n > len(m); wrong != (code == api.ErrRange) || wrong != (code != api.OK) {
					t.Fatalf("Cut(%d) of %d: %v", n, len(m), code)
				}
				if code == api.OK {
					m = m[:n]
				}
			}
			var list []api.Event
			for i := range r.Intn(4) {
				list = append(list, anEvent(r, len(m)+i, int64(len(m)+i)))
			}
			behind, want := m.follow(list...)
			seen[want]++
			if code := h.Check(list...); code != want {
				t.Fatalf("Check(%+v) behind %+v: %v, want %v", list, m, code, want)
			}
			got, code := h.Append(list...)
			if code != want || !same(got, behind[len(m):]) {
				t.Fatalf("Append(%+v) behind %+v: %+v, %v, want %v", list, m, got, code, want)
			}
			m = behind
			wantHistory(t, h, m...)
		}
		other, code := read(written(h))
		if code != api.OK {
			t.Fatalf("Read: %v", code)
		}
		wantHistory(t, other, m...)
	}
	for _, code := range []api.Errno{api.OK, api.ErrChain, api.ErrKind, api.ErrRange, api.ErrClosed, api.ErrState} {
		if seen[code] < 20 {
			t.Errorf("%v was seen %d times", code, seen[code])
		}
	}
}

// P18.5: any bytes are read to an end, and what is read is written so.
func TestReadAny(t *testing.T) {
	r := rand.New(rand.NewSource(19))
	b := written(mustNew(t, started(3), signal(4), scheduled(4), completed(5)))
	for range 20000 {
		c := append([]byte(nil), b[:r.Intn(len(b)+1)]...)
		for range r.Intn(4) {
			if len(c) > 0 {
				c[r.Intn(len(c))] = byte(r.Intn(256))
			}
		}
		for range r.Intn(6) {
			c = append(c, byte(r.Intn(256)))
		}
		h, code := read(c)
		if (h == nil) != (code != api.OK) {
			t.Fatalf("Read(%x): %v, %v", c, h, code)
		}
		if h != nil && string(written(h)) != string(c[:h.Bytes()]) {
			t.Fatalf("Read(%x) is written as %x", c, written(h))
		}
	}
}
