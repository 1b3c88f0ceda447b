package ring

import (
	"bytes"
	"fmt"
	"math"
	"math/rand"
	"slices"
	"strings"
	"testing"

	"foliot/api"
	"foliot/disk"
)

// garbage is what a sector has on which nothing was laid yet.
const garbage = 0xee

// text: n bytes, which tell where they stand.
func text(at uint64, n int) []byte {
	b := make([]byte, n)
	for i := range b {
		m := at + uint64(i)
		b[i] = byte(m) ^ byte(m>>7)*37 ^ byte(m>>15)
	}
	return b
}

// mustNew: a disk full of garbage, durable.
func mustNew(t *testing.T, sectors int) *disk.Disk {
	t.Helper()
	d, e := disk.New(sectors)
	if e != api.OK {
		t.Fatalf("disk.New(%d): %v", sectors, e)
	}
	for n := range sectors {
		if e := d.Write(n, bytes.Repeat([]byte{garbage}, 128)); e != api.OK {
			t.Fatalf("Write(%d): %v", n, e)
		}
	}
	mustFlush(t, d)
	return d
}

func mustFlush(t *testing.T, d *disk.Disk) {
	t.Helper()
	if e := d.Flush(); e != api.OK {
		t.Fatalf("Flush: %v", e)
	}
}

func mustOpen(t *testing.T, d *disk.Disk, first, count int, tail uint64) *Ring {
	t.Helper()
	r, e := Open(d, first, count, tail)
	if e != api.OK || r == nil {
		t.Fatalf("Open(%d, %d, %d): %v", first, count, tail, e)
	}
	return r
}

func mustAppend(t *testing.T, r *Ring, head uint64, parts ...[]byte) {
	t.Helper()
	if e := r.Append(head, parts...); e != api.OK {
		t.Fatalf("Append of %d parts: %v", len(parts), e)
	}
}

// mustFill: so many bytes of text behind the others, with nothing that must stay.
func mustFill(t *testing.T, r *Ring, n int) {
	t.Helper()
	for n > 0 {
		m := min(n, 100)
		mustAppend(t, r, math.MaxUint64, text(r.Tail(), m))
		n -= m
	}
}

func wantRead(t *testing.T, r *Ring, at uint64, want []byte) {
	t.Helper()
	if b, e := r.Read(at, len(want)); e != api.OK || !bytes.Equal(b, want) {
		t.Errorf("Read(%d, %d): %x %v, want %x", at, len(want), b, e, want)
	}
}

// last: the bytes of a sector, as they were written last.
func last(t *testing.T, d *disk.Disk, n int) string {
	t.Helper()
	b, e := d.Read(n)
	if e != api.OK {
		t.Fatalf("Read(%d): %v", n, e)
	}
	return string(b)
}

// look: all that can be told of a disk that is up.
func look(d *disk.Disk) string {
	var s strings.Builder
	fmt.Fprintln(&s, d.Down(), d.Pending(), d.Writes(), d.Flushes())
	for n := range d.Sectors() {
		b, _ := d.Read(n)
		sure, _ := d.Sure(n)
		fmt.Fprintf(&s, "%d: %x %x\n", n, b, sure)
	}
	return s.String()
}

// lookRing: all that can be told of a small ring.
func lookRing(r *Ring) string {
	var s strings.Builder
	fmt.Fprintln(&s, r.Tail(), r.Size(), r.Left(0), r.Left(r.Tail()))
	from := r.Tail() - min(r.Tail(), uint64(r.Size())+3)
	for at := from; at <= r.Tail(); at++ {
		b, e := r.Read(at, int(r.Tail()-at))
		fmt.Fprintln(&s, r.Left(at), b, e)
	}
	return s.String()
}

// The document's example.
func TestExample(t *testing.T) {
	d := mustNew(t, 2)
	r := mustOpen(t, d, 0, 2, 0)
	mustAppend(t, r, 0, text(0, 200))
	more := text(206, 100)
	mustAppend(t, r, 200, []byte("abcdef"), more[:50])
	mustAppend(t, r, 200, more[50:])
	wantRead(t, r, 200, []byte("abcdef"))
	wantRead(t, r, 206, more)
	if e := r.Append(200, more); e != api.ErrFull {
		t.Errorf("100 more: %v", e)
	}
	wantRead(t, r, 200, []byte("abcdef"))
}

// P7.1.
func TestOpen(t *testing.T) {
	for _, x := range []struct {
		first, count int
		want         api.Errno
	}{
		{0, 1, api.OK},
		{0, 5, api.OK},
		{4, 1, api.OK},
		{2, 3, api.OK},
		{0, 0, api.ErrRange},
		{0, -1, api.ErrRange},
		{5, 0, api.ErrRange},
		{0, 6, api.ErrRange},
		{-1, 1, api.ErrRange},
		{-1, 5, api.ErrRange},
		{5, 1, api.ErrRange},
		{2, 4, api.ErrRange},
		{3, math.MaxInt, api.ErrRange},
		{3, math.MinInt, api.ErrRange},
		{math.MaxInt, 3, api.ErrRange},
		{math.MinInt, 3, api.ErrRange},
		{math.MaxInt, math.MaxInt, api.ErrRange},
		{math.MinInt, math.MaxInt, api.ErrRange},
		{math.MinInt, math.MinInt, api.ErrRange},
		{math.MaxInt, 1, api.ErrRange},
		{1, math.MaxInt, api.ErrRange},
	} {
		for _, tail := range []uint64{0, 1, 127, 128, 300, 1 << 62, 1<<62 + 5, math.MaxUint64} {
			d := mustNew(t, 5)
			before := look(d)
			r, e := Open(d, x.first, x.count, tail)
			if e != x.want || (r == nil) != (e != api.OK) {
				t.Errorf("Open(%d, %d, %d): %v %v, want %v", x.first, x.count, tail, r, e, x.want)
			}
			if r != nil && (r.Tail() != tail || r.Size() != 128*x.count) {
				t.Errorf("Open(%d, %d, %d): Tail %d, Size %d", x.first, x.count, tail, r.Tail(), r.Size())
			}
			if look(d) != before {
				t.Errorf("Open(%d, %d, %d): the disk is changed", x.first, x.count, tail)
			}
			want := x.want
			if want == api.OK {
				want = api.ErrDown
			}
			d.Crash(nil, -1, 0)
			if r, e := Open(d, x.first, x.count, tail); r != nil || e != want {
				t.Errorf("Open(%d, %d, %d), down: %v %v, want %v", x.first, x.count, tail, r, e, want)
			}
		}
	}
}

// P7.1: as many sectors as a disk has at most.
func TestOpenGreatest(t *testing.T) {
	d := mustNew(t, 4096)
	r := mustOpen(t, d, 0, 4096, 7)
	if r.Size() != 524288 || r.Left(0) != 524281 {
		t.Errorf("Size %d, Left %d", r.Size(), r.Left(0))
	}
	if r, e := Open(d, 1, 4096, 0); r != nil || e != api.ErrRange {
		t.Errorf("one more than there are: %v %v", r, e)
	}
}

// P7.2: where each byte stands, round and round, and on no other sector.
func TestPlaces(t *testing.T) {
	for _, x := range []struct {
		first, count int
		tail         uint64
	}{{0, 1, 0}, {2, 3, 0}, {1, 2, 256}, {1, 4, 128 * 7}, {3, 3, 128 * (1<<55 - 1)}} {
		d := mustNew(t, 7)
		r := mustOpen(t, d, x.first, x.count, x.tail)
		for range 128 * x.count * 3 {
			at := r.Tail()
			b := []byte{byte(at) ^ byte(at>>7) ^ 0x5a}
			mustAppend(t, r, at, b)
			n := x.first + int(at/128%uint64(x.count))
			if s := last(t, d, n); s[at%128] != b[0] {
				t.Fatalf("%v: the byte %d isn't on the sector %d", x, at, n)
			}
			if !slices.Equal(d.Pending(), []int{n}) {
				t.Fatalf("%v: the byte %d: written: %v", x, at, d.Pending())
			}
			mustFlush(t, d)
		}
		for n := range 7 {
			if s := last(t, d, n); (n < x.first || n >= x.first+x.count) && s != strings.Repeat("\xee", 128) {
				t.Errorf("%v: the sector %d: %x", x, n, s)
			}
		}
	}
}

// P7.2.
func TestLeft(t *testing.T) {
	for _, x := range []struct {
		tail, head uint64
		want       int // of two sectors
	}{
		{0, 0, 256},
		{0, 1, 256},
		{0, math.MaxUint64, 256},
		{1, 0, 255},
		{1, 1, 255},
		{1, 500, 255},
		{127, 127, 129},
		{128, 128, 256},
		{128, 127, 128},
		{128, 0, 128},
		{128, 129, 256},
		{200, 128, 184},
		{200, 127, 56},
		{200, 199, 184},
		{200, 200, 184},
		{200, 10, 56},
		{255, 0, 1},
		{256, 0, 0},
		{256, 127, 0},
		{256, 128, 128},
		{257, 0, 0},
		{257, 127, 0},
		{257, 128, 127},
		{384, 128, 0},
		{384, 255, 0},
		{385, 255, 0},
		{385, 256, 127},
		{1 << 40, 0, 0},
		{1 << 62, 0, 0},
		{1 << 62, 1 << 61, 0},
		{1 << 62, 1<<62 - 256, 0},
		{1 << 62, 1<<62 - 255, 0},
		{1 << 62, 1<<62 - 128, 128},
		{1 << 62, 1<<62 - 1, 128},
		{1 << 62, 1 << 62, 256},
		{1 << 62, math.MaxUint64, 256},
	} {
		r := mustOpen(t, mustNew(t, 3), 1, 2, x.tail)
		if got := r.Left(x.head); got != x.want {
			t.Errorf("Tail %d: Left(%d) = %d, want %d", x.tail, x.head, got, x.want)
		}
	}
}

// P7.3: the bytes of the sectors that are written, and only those; nothing is flushed.
func TestAppend(t *testing.T) {
	for _, x := range []struct {
		tail    int
		parts   []int
		pending []int // of the sectors 1 to 3
	}{
		{0, []int{1}, []int{1}},
		{0, []int{127}, []int{1}},
		{0, []int{128}, []int{1}},
		{0, []int{129}, []int{1, 2}},
		{0, []int{384}, []int{1, 2, 3}},
		{5, []int{1, 0, 2, 0}, []int{1}},
		{5, []int{60, 63}, []int{1}},
		{5, []int{60, 63, 1}, []int{1, 2}},
		{127, []int{1}, []int{1}},
		{127, []int{2}, []int{1, 2}},
		{128, []int{1}, []int{2}},
		{200, []int{56}, []int{2}},
		{200, []int{57}, []int{2, 3}},
		{200, []int{56, 128, 1}, []int{1, 2, 3}},
		{200, []int{56, 128, 128}, []int{1, 2, 3}},
		{300, []int{100}, []int{1, 3}},
		{384, []int{384}, []int{1, 2, 3}},
		{500, []int{0, 20, 0, 30, 1}, []int{1, 2}},
		{127, nil, nil},
		{200, []int{0, 0}, nil},
		{256, []int{0}, nil},
	} {
		d := mustNew(t, 5)
		r := mustOpen(t, d, 1, 3, 0)
		mustFill(t, r, x.tail)
		mustFlush(t, d)
		want := sectors(t, d)
		var parts [][]byte
		at := uint64(x.tail)
		for _, n := range x.parts {
			parts = append(parts, text(at, n))
			lay(want, at, n)
			at += uint64(n)
		}
		writes, flushes := d.Writes(), d.Flushes()
		mustAppend(t, r, uint64(x.tail), parts...)
		if r.Tail() != at {
			t.Errorf("%v: Tail %d", x, r.Tail())
		}
		if got := d.Pending(); !slices.Equal(got, x.pending) || d.Writes() != writes+int64(len(got)) || d.Flushes() != flushes {
			t.Errorf("%v: written: %v, %d writes, %d flushes", x, got, d.Writes()-writes, d.Flushes()-flushes)
		}
		for n, b := range want {
			if got := last(t, d, n); got != string(b) {
				t.Errorf("%v: the sector %d: %x, want %x", x, n, got, b)
			}
		}
	}
}

// sectors: the bytes of each sector.
func sectors(t *testing.T, d *disk.Disk) [][]byte {
	t.Helper()
	var list [][]byte
	for n := range d.Sectors() {
		list = append(list, []byte(last(t, d, n)))
	}
	return list
}

// lay: n bytes of text from a number on, with noughts behind them, on the sectors 1 to 3.
func lay(list [][]byte, at uint64, n int) {
	for i, x := range text(at, n) {
		m := at + uint64(i)
		s := list[1+m/128%3]
		s[m%128] = x
		clear(s[m%128+1:])
	}
}

// P7.3: ErrFull at one byte more than are left, however they are parted, with nothing changed; with as many there is room.
func TestAppendFull(t *testing.T) {
	for _, tail := range []int{0, 1, 127, 128, 200, 255, 256, 257, 300, 511, 512} {
		for head := range uint64(tail + 1) {
			if head%128 > 2 && head%128 < 126 {
				continue
			}
			d := mustNew(t, 2)
			r := mustOpen(t, d, 0, 2, 0)
			mustFill(t, r, tail)
			n := r.Left(head)
			b := text(uint64(tail), n+1)
			before, was := look(d), lookRing(r)
			for _, parts := range [][][]byte{{b}, {b[:n/2], b[n/2:]}, {nil, b[:n], b[n:], nil}, {b[:1], b[1:]}, {b, b, b}} {
				if e := r.Append(head, parts...); e != api.ErrFull {
					t.Fatalf("Tail %d, head %d: Append of %d: %v", tail, head, n+1, e)
				}
			}
			if look(d) != before || lookRing(r) != was {
				t.Fatalf("Tail %d, head %d: what is refused has changed something", tail, head)
			}
			mustAppend(t, r, head, b[:n/2], b[n/2:n])
			wantRead(t, r, uint64(tail), b[:n])
			if r.Left(head) != 0 {
				t.Errorf("Tail %d, head %d: left: %d", tail, head, r.Left(head))
			}
			// What stands from head on, as far as it was there, is there still.
			if from := r.Tail() - min(r.Tail(), 256-(-r.Tail()%128)); head >= from {
				wantRead(t, r, head, text(head, int(r.Tail()-head)))
			} else if n > 0 {
				t.Errorf("Tail %d, head %d: %d bytes more, and it isn't there", tail, head, n)
			}
		}
	}
}

// P7.3: the disk's error, behind ErrFull.
func TestAppendDown(t *testing.T) {
	for _, fuse := range []int{0, 1, 2} {
		d := mustNew(t, 3)
		r := mustOpen(t, d, 0, 3, 0)
		mustFill(t, r, 10)
		mustFlush(t, d)
		d.Fuse(fuse)
		if e := r.Append(0, text(10, 375)); e != api.ErrFull || d.Down() {
			t.Errorf("fuse %d: Append of too many: %v", fuse, e)
		}
		if e := r.Append(0, text(10, 374)); e != api.ErrDown {
			t.Errorf("fuse %d: Append: %v", fuse, e)
		}
		if len(d.Pending()) != fuse {
			t.Errorf("fuse %d: written: %v", fuse, d.Pending())
		}
		d.Crash(nil, -1, 0)
		d.Up()
		r = mustOpen(t, d, 0, 3, 10)
		wantRead(t, r, 0, text(0, 10))
		mustAppend(t, r, 0, text(10, 374))
		wantRead(t, r, 0, text(0, 384))
	}
}

// P7.4: the errors, each ahead of the next.
func TestReadErrors(t *testing.T) {
	for _, x := range []struct {
		tail, at uint64
		n        int
		want     api.Errno
	}{
		{300, 300, 0, api.OK},
		{300, 0, 0, api.ErrMissing},
		{300, 0, 300, api.ErrMissing},
		{300, 127, 0, api.ErrMissing},
		{300, 127, 173, api.ErrMissing},
		{300, 128, 172, api.OK},
		{300, 128, 0, api.OK},
		{300, 128, 173, api.ErrRange},
		{300, 127, 174, api.ErrRange},
		{300, 0, 301, api.ErrRange},
		{300, 0, -1, api.ErrRange},
		{300, 300, 1, api.ErrRange},
		{300, 301, 0, api.ErrRange},
		{300, 301, -1, api.ErrRange},
		{300, 200, -1, api.ErrRange},
		{300, 200, math.MinInt, api.ErrRange},
		{300, 200, math.MaxInt, api.ErrRange},
		{300, math.MaxUint64, 0, api.ErrRange},
		{300, math.MaxUint64, 1, api.ErrRange},
		{300, math.MaxUint64, math.MaxInt, api.ErrRange},
		{256, 0, 256, api.OK},
		{257, 0, 1, api.ErrMissing},
		{257, 127, 1, api.ErrMissing},
		{257, 128, 129, api.OK},
		{384, 127, 257, api.ErrMissing},
		{384, 128, 256, api.OK},
		{385, 255, 1, api.ErrMissing},
		{385, 256, 1, api.OK},
		{0, 0, 0, api.OK},
		{0, 0, 1, api.ErrRange},
		{255, 0, 255, api.OK},
		{1 << 62, 0, 1, api.ErrMissing},
		{1 << 62, 0, 1 << 62, api.ErrMissing},
		{1 << 62, 0, 1<<62 + 1, api.ErrRange},
		{1 << 62, 1<<62 - 257, 1, api.ErrMissing},
		{1 << 62, 1<<62 - 256, 256, api.OK},
	} {
		d := mustNew(t, 2)
		r := mustOpen(t, d, 0, 2, x.tail)
		before := look(d)
		b, e := r.Read(x.at, x.n)
		if e != x.want || e == api.OK && len(b) != x.n || e != api.OK && b != nil {
			t.Errorf("Tail %d: Read(%d, %d): %d bytes, %v, want %v", x.tail, x.at, x.n, len(b), e, x.want)
		}
		if look(d) != before {
			t.Errorf("Tail %d: Read(%d, %d): the disk is changed", x.tail, x.at, x.n)
		}
		d.Crash(nil, -1, 0)
		want := x.want
		if want == api.OK && x.n > 0 {
			want = api.ErrDown
		}
		if b, e := r.Read(x.at, x.n); len(b) > 0 || e != want {
			t.Errorf("Tail %d, down: Read(%d, %d): %d bytes, %v, want %v", x.tail, x.at, x.n, len(b), e, want)
		}
	}
}

// P7.4: all that is there, from each byte on, durable or not.
func TestRead(t *testing.T) {
	for _, tail := range []int{1, 100, 128, 300, 384, 385, 511, 600, 900} {
		d := mustNew(t, 4)
		r := mustOpen(t, d, 1, 3, 0)
		mustFill(t, r, tail)
		from := max(0, (tail+127)/128*128-384)
		for at := from; at <= tail; at++ {
			wantRead(t, r, uint64(at), text(uint64(at), tail-at))
			wantRead(t, r, uint64(at), text(uint64(at), (tail-at)/2))
		}
		mustFlush(t, d)
		r = mustOpen(t, d, 1, 3, uint64(tail))
		wantRead(t, r, uint64(from), text(uint64(from), tail-from))
	}
}

// P7.5: the power goes at each write, and any sector is whole, torn at any place or as it was: what stands between the head and the tail is there.
func TestPower(t *testing.T) {
	for _, x := range []struct {
		tail    int
		head    uint64
		more    int
		pending int
	}{
		{300, 150, 212, 2},
		{300, 150, 84, 1},
		{300, 150, 85, 2},
		{384, 128, 128, 1},
		{400, 256, 240, 2},
		{500, 500, 268, 3},
		{130, 0, 254, 2},
	} {
		d := mustNew(t, 5)
		r := mustOpen(t, d, 1, 3, 0)
		mustFill(t, r, x.tail)
		mustFlush(t, d)
		for fuse := range x.pending + 1 {
			c := d.Clone()
			c.Fuse(fuse)
			r := mustOpen(t, c, 1, 3, uint64(x.tail))
			r.Append(x.head, text(uint64(x.tail), x.more))
			crashes(c, func(c *disk.Disk) {
				r := mustOpen(t, c, 1, 3, uint64(x.tail))
				wantRead(t, r, x.head, text(x.head, x.tail-int(x.head)))
				mustAppend(t, r, x.head, text(uint64(x.tail), x.more))
				wantRead(t, r, x.head, text(x.head, x.tail+x.more-int(x.head)))
				mustFlush(t, c)
				r = mustOpen(t, c, 1, 3, r.Tail())
				wantRead(t, r, x.head, text(x.head, x.tail+x.more-int(x.head)))
			})
			if t.Failed() {
				t.Fatalf("%v, fuse %d", x, fuse)
			}
		}
	}
}

// crashes: of a disk, each one that the power's going may leave of it, up again; of the places where a sector is torn some.
func crashes(d *disk.Disk, f func(*disk.Disk)) {
	pending := d.Pending()
	for some := range 1 << len(pending) {
		var keep []int
		for i, n := range pending {
			if some>>i&1 == 1 {
				keep = append(keep, n)
			}
		}
		for _, tear := range append(pending, -1) {
			for at := 0; at <= 128; at += 16 {
				c := d.Clone()
				c.Crash(keep, tear, at+at%3)
				c.Up()
				f(c)
			}
		}
	}
}

// P2: what is handed in is neither changed nor kept, its spare room too, and what is answered is new memory.
func TestMemory(t *testing.T) {
	d := mustNew(t, 3)
	r := mustOpen(t, d, 0, 3, 0)
	room := text(0, 200)
	parts := [][]byte{room[:50], nil, room[50:90:200]}
	mustAppend(t, r, 0, parts...)
	if !bytes.Equal(room, text(0, 200)) || len(parts[0]) != 50 || parts[1] != nil || len(parts[2]) != 40 {
		t.Error("Append changed its arguments")
	}
	clear(room)
	clear(parts)
	mustAppend(t, r, 0, text(90, 10))
	wantRead(t, r, 0, text(0, 100))
	for range 2 {
		b, _ := r.Read(0, 60)
		b = b[:cap(b)]
		for i := range b {
			b[i] = 0x77
		}
	}
	wantRead(t, r, 0, text(0, 100))
	mustAppend(t, r, 0, text(100, 10))
	wantRead(t, r, 0, text(0, 110))
	first, second := mustOpen(t, d, 0, 3, 110), mustOpen(t, d, 0, 3, 110)
	mustAppend(t, first, 0, bytes.Repeat([]byte{1}, 5))
	mustAppend(t, second, 0, text(110, 5))
	wantRead(t, second, 0, text(0, 115))
	if first.Tail() != 115 || r.Tail() != 110 {
		t.Errorf("Tails %d, %d", first.Tail(), r.Tail())
	}
}

// P1: tails of which little is promised make nothing panic.
func TestGreatTails(t *testing.T) {
	for _, tail := range []uint64{1<<62 + 1, 1 << 63, math.MaxUint64 - 128, math.MaxUint64 - 127, math.MaxUint64 - 1, math.MaxUint64} {
		for _, at := range []uint64{0, 1, 1 << 62, tail - 300, tail - 1, tail, tail + 1, math.MaxUint64} {
			for _, n := range []int{math.MinInt, -1, 0, 1, 128, 300, math.MaxInt} {
				r := mustOpen(t, mustNew(t, 3), 1, 2, tail)
				if r.Tail() != tail || r.Size() != 256 {
					t.Errorf("Tail %d, Size %d", r.Tail(), r.Size())
				}
				r.Read(at, n)
				r.Left(at)
				for range 3 {
					r.Append(at, text(0, max(0, min(n, 300))))
					r.Read(at, n)
					r.Left(at)
				}
			}
		}
	}
}

// told is a ring as the document's words have it: all its bytes, and those of its sectors.
type told struct {
	all   []byte
	size  int
	first int
}

func (m *told) tail() int { return len(m.all) }

func (m *told) left(head uint64) int {
	h := m.tail()
	if head < uint64(h) {
		h = int(head)
	}
	return max(0, m.size-(m.tail()-h/128*128))
}

func (m *told) read(at, n int) ([]byte, api.Errno) {
	switch {
	case n < 0 || at > m.tail() || at+n > m.tail():
		return nil, api.ErrRange
	case at < (m.tail()+127)/128*128-m.size:
		return nil, api.ErrMissing
	}
	return m.all[at : at+n], api.OK
}

// P1 and P7.1 to P7.5: steps by chance, against the document's words.
func TestSteps(t *testing.T) {
	r := rand.New(rand.NewSource(7))
	for range 60 {
		count := 1 + r.Intn(4)
		m := &told{size: 128 * count, first: r.Intn(3)}
		d := mustNew(t, m.first+count+r.Intn(2))
		x := mustOpen(t, d, m.first, count, 0)
		for range 150 {
			head := uint64(max(0, m.tail()-r.Intn(m.size+100)))
			switch r.Intn(8) {
			case 0, 1, 2, 3:
				stepAppend(t, r, x, m, head)
			case 4, 5:
				at, n := int(head), r.Intn(m.size+60)-5
				b, e := x.Read(head, n)
				if want, f := m.read(at, n); e != f || !bytes.Equal(b, want) {
					t.Fatalf("Tail %d: Read(%d, %d): %x %v, want %x %v", m.tail(), at, n, b, e, want, f)
				}
			case 6:
				if got, want := x.Left(head), m.left(head); got != want {
					t.Fatalf("Tail %d: Left(%d) = %d, want %d", m.tail(), head, got, want)
				}
			case 7:
				mustFlush(t, d)
				x = mustOpen(t, d, m.first, count, uint64(m.tail()))
			}
			if x.Tail() != uint64(m.tail()) || x.Size() != m.size {
				t.Fatalf("Tail %d, Size %d, want %d, %d", x.Tail(), x.Size(), m.tail(), m.size)
			}
		}
	}
}

// stepAppend: bytes are appended in parts, if there is room.
func stepAppend(t *testing.T, r *rand.Rand, x *Ring, m *told, head uint64) {
	t.Helper()
	var parts [][]byte
	var all []byte
	for range r.Intn(4) {
		b := make([]byte, r.Intn(90))
		r.Read(b)
		parts, all = append(parts, b), append(all, b...)
	}
	e := x.Append(head, parts...)
	if full := len(all) > m.left(head); full != (e == api.ErrFull) || !full && e != api.OK {
		t.Fatalf("Tail %d: Append(%d) of %d: %v", m.tail(), head, len(all), e)
	}
	if e == api.OK {
		m.all = append(m.all, all...)
	}
}
