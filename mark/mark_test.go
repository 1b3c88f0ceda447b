package mark

import (
	"bytes"
	"encoding/binary"
	"math"
	"math/rand"
	"slices"
	"strings"
	"testing"

	"foliot/api"
	"foliot/disk"
)

// laid: a mark's sector, as the document's words have it.
func laid(seq uint64, w ...uint64) []byte {
	var b []byte
	for range 2 {
		b = binary.LittleEndian.AppendUint64(b, seq)
		for i := range 6 {
			var n uint64
			if i < len(w) {
				n = w[i]
			}
			b = binary.LittleEndian.AppendUint64(b, n)
		}
	}
	return append(b, make([]byte, 16)...)
}

// changed: bytes of which one is another one.
func changed(b []byte, at int) []byte {
	b = slices.Clone(b)
	b[at] ^= 0x41
	return b
}

// standing: a sector with no mark, on which two numbers stand.
func standing(a, b uint64) []byte {
	s := bytes.Repeat([]byte{0xee}, 128)
	binary.LittleEndian.PutUint64(s, a)
	binary.LittleEndian.PutUint64(s[56:], b)
	return s
}

func mustNew(t *testing.T, sectors int) *disk.Disk {
	t.Helper()
	d, e := disk.New(sectors)
	if e != api.OK {
		t.Fatalf("disk.New(%d): %v", sectors, e)
	}
	return d
}

// mustLay: sectors from first on have these bytes, durable.
func mustLay(t *testing.T, d *disk.Disk, first int, list ...[]byte) {
	t.Helper()
	for i, b := range list {
		if e := d.Write(first+i, b); e != api.OK {
			t.Fatalf("Write(%d): %v", first+i, e)
		}
	}
	if e := d.Flush(); e != api.OK {
		t.Fatalf("Flush: %v", e)
	}
}

// pairOf: a disk of two sectors with these bytes.
func pairOf(t *testing.T, a, b []byte) *disk.Disk {
	t.Helper()
	d := mustNew(t, 2)
	mustLay(t, d, 0, a, b)
	return d
}

func mustPut(t *testing.T, d *disk.Disk, first int, w ...uint64) Mark {
	t.Helper()
	m, e := Put(d, first, w...)
	if e != api.OK {
		t.Fatalf("Put(%d, %v): %v", first, w, e)
	}
	return m
}

// durable: the bytes of a disk that are, one sector behind the other.
func durable(d *disk.Disk) string {
	var s strings.Builder
	for n := range d.Sectors() {
		b, _ := d.Sure(n)
		s.Write(b)
	}
	return s.String()
}

// P6.1 and P6.2: the document's example, and the bytes of it.
func TestPut(t *testing.T) {
	d := mustNew(t, 5)
	if m := mustPut(t, d, 2, 5, 6); m != (Mark{1, [6]uint64{5, 6}}) {
		t.Errorf("the first mark: %v", m)
	}
	none := strings.Repeat("\x00", 128)
	if got, want := durable(d), none+none+none+string(laid(1, 5, 6))+none; got != want {
		t.Errorf("the first mark: %x, want %x", got, want)
	}
	if m := mustPut(t, d, 2, 7); m != (Mark{2, [6]uint64{7}}) {
		t.Errorf("the second mark: %v", m)
	}
	if got, want := durable(d), none+none+string(laid(2, 7))+string(laid(1, 5, 6))+none; got != want {
		t.Errorf("the second mark: %x, want %x", got, want)
	}
	if m, e := Get(d, 2); m != (Mark{2, [6]uint64{7}}) || e != api.OK {
		t.Errorf("Get: %v %v", m, e)
	}
	if m, e := Get(d, 3); m != (Mark{}) || e != api.ErrMissing {
		t.Errorf("Get of sectors on which each mark is where its Seq doesn't belong: %v %v", m, e)
	}
	if d.Writes() != 2 || d.Flushes() != 2 {
		t.Errorf("%d writes, %d flushes", d.Writes(), d.Flushes())
	}
}

// P6.1 and P6.2: any numbers, none and six of them, on any two sectors.
func TestPutNumbers(t *testing.T) {
	big := []uint64{math.MaxUint64, 1 << 63, 0x0102030405060708, 0, 255, 256}
	for first := range 4 {
		d := mustNew(t, 5)
		for i := range 20 {
			w := big[:i%7]
			m := mustPut(t, d, first, w...)
			var want Mark
			want.Seq = uint64(i) + 1
			copy(want.W[:], w)
			if m != want {
				t.Errorf("mark %d at %d: %v, want %v", i, first, m, want)
			}
			if b, e := d.Sure(first + (i+1)%2); e != api.OK || !bytes.Equal(b, laid(want.Seq, w...)) {
				t.Errorf("mark %d at %d: %x %v", i, first, b, e)
			}
			if m, e := Get(d, first); m != want || e != api.OK {
				t.Errorf("Get behind mark %d at %d: %v %v", i, first, m, e)
			}
		}
	}
}

// P6.2 and P6.3: the errors, each ahead of the next, and P2: what is refused has changed nothing.
func TestErrors(t *testing.T) {
	full := standing(math.MaxUint64, 0)
	six, seven := make([]uint64, 6), make([]uint64, 7)
	for _, x := range []struct {
		sectors int
		down    bool
		stands  bool
		first   int
		w       []uint64
		get     api.Errno
		put     api.Errno
	}{
		{2, true, true, -1, seven, api.ErrRange, api.ErrRange},
		{2, true, true, 1, seven, api.ErrRange, api.ErrRange},
		{2, false, true, 1, seven, api.ErrRange, api.ErrRange},
		{2, false, false, 2, nil, api.ErrRange, api.ErrRange},
		{1, false, false, 0, nil, api.ErrRange, api.ErrRange},
		{1, true, false, 0, nil, api.ErrRange, api.ErrRange},
		{1, false, false, -1, nil, api.ErrRange, api.ErrRange},
		{3, false, false, math.MinInt, nil, api.ErrRange, api.ErrRange},
		{3, false, false, math.MaxInt, nil, api.ErrRange, api.ErrRange},
		{3, false, false, math.MaxInt - 1, nil, api.ErrRange, api.ErrRange},
		{2, true, true, 0, seven, api.ErrDown, api.ErrDown},
		{2, true, false, 0, nil, api.ErrDown, api.ErrDown},
		{2, false, true, 0, seven, api.ErrMissing, api.ErrLong},
		{2, false, false, 0, seven, api.ErrMissing, api.ErrLong},
		{2, false, true, 0, six, api.ErrMissing, api.ErrFull},
		{2, false, true, 0, nil, api.ErrMissing, api.ErrFull},
	} {
		d := mustNew(t, x.sectors)
		if x.stands {
			mustLay(t, d, 0, full, full)
		}
		if x.down {
			d.Crash(nil, 0, 0)
		}
		before, writes, flushes := durable(d), d.Writes(), d.Flushes()
		if m, e := Get(d, x.first); m != (Mark{}) || e != x.get {
			t.Errorf("%v: Get: %v %v", x, m, e)
		}
		if m, e := Put(d, x.first, x.w...); m != (Mark{}) || e != x.put {
			t.Errorf("%v: Put: %v %v", x, m, e)
		}
		if durable(d) != before || len(d.Pending()) > 0 || d.Writes() != writes || d.Flushes() != flushes {
			t.Errorf("%v: the disk changed", x)
		}
	}
}

// P6.2: ErrFull hangs on the greatest of the four numbers alone, wherever it stands.
func TestPutFull(t *testing.T) {
	for at := range 4 {
		for less := range uint64(6) {
			n := math.MaxUint64 - less
			stood := [4]uint64{3, 3, 3, 3}
			stood[at] = n
			d := pairOf(t, standing(stood[0], stood[1]), standing(stood[2], stood[3]))
			before := durable(d)
			m, e := Put(d, 0, 1)
			if less < 2 {
				if m != (Mark{}) || e != api.ErrFull || durable(d) != before {
					t.Errorf("2^64 - 1 - %d stands: %v %v", less, m, e)
				}
			} else if m != (Mark{n + 1, [6]uint64{1}}) || e != api.OK {
				t.Errorf("2^64 - 1 - %d stands: %v %v", less, m, e)
			}
		}
	}
	// The last mark has the number that the next one can't have beside it: one more is the greatest of all.
	d := pairOf(t, laid(math.MaxUint64-3), standing(math.MaxUint64-2, 0))
	if m := mustPut(t, d, 0, 4); m.Seq != math.MaxUint64 {
		t.Errorf("Seq: %d", m.Seq)
	}
	if m, e := Get(d, 0); m != (Mark{math.MaxUint64, [6]uint64{4}}) || e != api.OK {
		t.Errorf("Get: %v %v", m, e)
	}
	if _, e := Put(d, 0, 4); e != api.ErrFull {
		t.Errorf("Put behind the greatest: %v", e)
	}
}

// P6.2: the next Seq, by what stands there and by where the last mark is.
func TestPutSeq(t *testing.T) {
	for _, x := range []struct {
		a, b []byte
		want uint64
	}{
		{standing(0, 0), standing(0, 0), 1},
		{standing(1, 0), standing(0, 0), 2}, // without a mark either sector will do
		{standing(0, 2), standing(0, 0), 3},
		{standing(0, 0), standing(3, 1), 4},
		{standing(2, 7), standing(3, 258), 259},
		{laid(8), laid(7), 9},
		{laid(8), laid(9), 10},
		{laid(8), standing(9, 7), 11},           // 10 belongs to the last mark's sector, as 8 does
		{laid(8), standing(7, 10), 11},          // 11 doesn't
		{standing(10, 8), laid(9), 12},          // 11 does, as 9
		{standing(8, 11), laid(9), 12},          // 12 doesn't
		{laid(9), laid(7), 10},                  // a mark out of its place is none, yet its Seq stands there
		{laid(12), laid(8), 13},                 // nor is this one; the last mark is 12
		{laid(8), changed(laid(301), 127), 303}, // of what is no mark the numbers count
		{changed(laid(1000), 60), laid(5), 1000 + 0x41<<32 + 2},
	} {
		d := pairOf(t, x.a, x.b)
		want := x.want
		if m := mustPut(t, d, 0, 9); m != (Mark{want, [6]uint64{9}}) {
			t.Errorf("%x, %x: %v, want %d", x.a, x.b, m, want)
		}
		if m, e := Get(d, 0); m != (Mark{want, [6]uint64{9}}) || e != api.OK {
			t.Errorf("%x, %x: Get: %v %v", x.a, x.b, m, e)
		}
	}
}

// P6.2: all else that was written is durable, too.
func TestPutFlushesAll(t *testing.T) {
	d := mustNew(t, 4)
	b := bytes.Repeat([]byte{7}, 128)
	if e := d.Write(3, b); e != api.OK {
		t.Fatalf("Write: %v", e)
	}
	mustPut(t, d, 0)
	if s, _ := d.Sure(3); !bytes.Equal(s, b) || len(d.Pending()) > 0 {
		t.Errorf("what was written: %x, not durable: %v", s, d.Pending())
	}
}

// P6.3: which sectors are a mark's.
func TestGet(t *testing.T) {
	none := make([]byte, 128)
	for _, x := range []struct {
		a, b []byte
		want Mark
	}{
		{none, none, Mark{}},
		{laid(0), laid(0), Mark{}},
		{laid(0, 5), laid(0, 6), Mark{}}, // Seq 0 is none
		{none, laid(1), Mark{1, [6]uint64{}}},
		{laid(2, 1, 2, 3, 4, 5, 6), none, Mark{2, [6]uint64{1, 2, 3, 4, 5, 6}}},
		{laid(1, 5), none, Mark{}}, // out of its place
		{none, laid(2, 5), Mark{}},
		{laid(9, 5), laid(2, 5), Mark{}},
		{laid(9, 5), laid(1, 6), Mark{1, [6]uint64{6}}},
		{laid(4, 5), laid(8, 6), Mark{4, [6]uint64{5}}},
		{laid(4, 5), laid(5, 6), Mark{5, [6]uint64{6}}},
		{laid(4, 5), laid(3, 6), Mark{4, [6]uint64{5}}},
		{laid(256), laid(255), Mark{256, [6]uint64{}}},
		{laid(math.MaxUint64 - 1), laid(math.MaxUint64, 3), Mark{math.MaxUint64, [6]uint64{3}}},
	} {
		want := api.OK
		if x.want.Seq == 0 {
			want = api.ErrMissing
		}
		d := pairOf(t, x.a, x.b)
		if m, e := Get(d, 0); m != x.want || e != want {
			t.Errorf("%x, %x: %v %v, want %v", x.a, x.b, m, e, x.want)
		}
	}
}

// P6.1 and P6.3: a sector of which any byte is another one is no mark's.
func TestGetSpoiled(t *testing.T) {
	for at := range 128 {
		d := pairOf(t, changed(laid(6, 1, 2, 3, 4, 5, 6), at), laid(5, 9))
		if m, e := Get(d, 0); m != (Mark{5, [6]uint64{9}}) || e != api.OK {
			t.Errorf("byte %d of the last one: %v %v", at, m, e)
		}
		d = pairOf(t, make([]byte, 128), changed(laid(5, 9), at))
		if m, e := Get(d, 0); m != (Mark{}) || e != api.ErrMissing {
			t.Errorf("byte %d of the only one: %v %v", at, m, e)
		}
	}
}

// P6.3: what was written last is read, whether it is durable or not.
func TestGetWritten(t *testing.T) {
	d := pairOf(t, laid(4, 5), laid(3, 6))
	if e := d.Write(1, laid(5, 7)); e != api.OK {
		t.Fatalf("Write: %v", e)
	}
	if m, e := Get(d, 0); m != (Mark{5, [6]uint64{7}}) || e != api.OK {
		t.Errorf("Get: %v %v", m, e)
	}
	if !slices.Equal(d.Pending(), []int{1}) || d.Flushes() != 1 {
		t.Errorf("Get flushed: %v, %d", d.Pending(), d.Flushes())
	}
}

// vain: a disk on which a mark was put in vain: behind so many writes and flushes the power went, and so many bytes of the mark's sector are durable; and the mark.
func vain(t *testing.T, d *disk.Disk, fuse, at int, w ...uint64) (*disk.Disk, Mark) {
	t.Helper()
	m := mustPut(t, d.Clone(), 0, w...)
	c := d.Clone()
	c.Fuse(fuse)
	if n, e := Put(c, 0, w...); n != (Mark{}) || e != api.ErrDown {
		t.Fatalf("Put, as the power goes: %v %v", n, e)
	}
	if n, e := Get(c, 0); n != (Mark{}) || e != api.ErrDown {
		t.Fatalf("Get, as the power is gone: %v %v", n, e)
	}
	c.Crash(nil, int(m.Seq%2), at)
	c.Up()
	return c, m
}

// wantEither: the last mark is the one ahead of m, which Get answered of d, or m; that it is m is said.
func wantEither(t *testing.T, d, behind *disk.Disk, m Mark) bool {
	t.Helper()
	old, e := Get(d, 0)
	got, f := Get(behind, 0)
	if (got != m || f != api.OK) && (got != old || f != e) {
		t.Fatalf("%x: %v %v; ahead %v %v, put %v", durable(behind), got, f, old, e, m)
	}
	return got == m
}

// P6.4: the power goes while a mark is put, and its sector is torn at any place; and while one is put on what is left of that.
func TestPower(t *testing.T) {
	starts := []*disk.Disk{mustNew(t, 2)}
	for i := range 3 {
		d := starts[i].Clone()
		mustPut(t, d, 0, uint64(i), 0x0807060504030201)
		starts = append(starts, d)
	}
	starts = append(starts, pairOf(t, laid(254, 1), laid(255, 2)), pairOf(t, laid(256, 1), laid(255, 1)), pairOf(t, laid(65536, 1), laid(65535, 1)))
	for _, d := range starts {
		for at := range 129 {
			behind, m := vain(t, d, 1, at, 3, math.MaxUint64)
			if put := wantEither(t, d, behind, m); put && at <= 56 || !put && at >= 112 {
				t.Errorf("torn at %d: put: %v", at, put)
			}
			for at := range 129 {
				again, m := vain(t, behind, 1, at, 4, 5)
				wantEither(t, behind, again, m)
			}
		}
		behind, m := vain(t, d, 0, 128, 3)
		if wantEither(t, d, behind, m) || durable(behind) != durable(d) {
			t.Error("the power went ahead of the write, and yet it is there")
		}
		behind = d.Clone()
		m = mustPut(t, behind, 0, 8)
		behind.Crash(nil, 0, 0)
		behind.Up()
		if !wantEither(t, d, behind, m) {
			t.Error("behind OK it isn't there")
		}
	}
}

// P6.4: marks by chance, in vain or not, with numbers that are much the same.
func TestPowerByChance(t *testing.T) {
	r := rand.New(rand.NewSource(6))
	for range 200 {
		seq := uint64(1) << r.Intn(63)
		d := pairOf(t, laid(seq&^1, 1), laid(seq|1, 2))
		for range 60 {
			w := make([]uint64, r.Intn(7))
			for i := range w {
				w[i] = uint64(r.Intn(3)) << (8 * r.Intn(8))
			}
			if r.Intn(4) == 0 {
				mustPut(t, d, 0, w...)
				continue
			}
			behind, m := vain(t, d, 1, r.Intn(140)-5, w...)
			wantEither(t, d, behind, m)
			d = behind
		}
	}
}

// P2: the numbers that are handed in are neither changed nor kept, and a mark is its own.
func TestMemory(t *testing.T) {
	w := []uint64{1, 2, 3, 4, 5, 6, 7}
	d := mustNew(t, 2)
	m := mustPut(t, d, 0, w[:3]...)
	if !slices.Equal(w, []uint64{1, 2, 3, 4, 5, 6, 7}) {
		t.Errorf("Put changed its argument: %v", w)
	}
	clear(w)
	m.W[0] = 9
	if m, e := Get(d, 0); m != (Mark{1, [6]uint64{1, 2, 3}}) || e != api.OK {
		t.Errorf("Get: %v %v", m, e)
	}
}
