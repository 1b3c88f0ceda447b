package disk

import (
	"bytes"
	"fmt"
	"math"
	"math/rand"
	"slices"
	"strings"
	"testing"

	"foliot/api"
)

// full: a sector of bytes x.
func full(x byte) []byte { return bytes.Repeat([]byte{x}, 128) }

// mix: a sector whose first n bytes are x, the others y.
func mix(n int, x, y byte) string {
	return strings.Repeat(string([]byte{x}), n) + strings.Repeat(string([]byte{y}), 128-n)
}

func mustNew(t *testing.T, sectors int) *Disk {
	t.Helper()
	d, e := New(sectors)
	if e != api.OK || d == nil {
		t.Fatalf("New(%d): %v", sectors, e)
	}
	return d
}

func mustWrite(t *testing.T, d *Disk, n int, x byte) {
	t.Helper()
	if e := d.Write(n, full(x)); e != api.OK {
		t.Fatalf("Write(%d): %v", n, e)
	}
}

func mustFlush(t *testing.T, d *Disk) {
	t.Helper()
	if e := d.Flush(); e != api.OK {
		t.Fatalf("Flush: %v", e)
	}
}

func wantSure(t *testing.T, d *Disk, n int, want string) {
	t.Helper()
	if b, e := d.Sure(n); e != api.OK || string(b) != want {
		t.Errorf("Sure(%d): %x %v, want %x", n, b, e, want)
	}
}

func wantRead(t *testing.T, d *Disk, n int, want string) {
	t.Helper()
	if b, e := d.Read(n); e != api.OK || string(b) != want {
		t.Errorf("Read(%d): %x %v, want %x", n, b, e, want)
	}
}

func wantPending(t *testing.T, d *Disk, want ...int) {
	t.Helper()
	if got := d.Pending(); !slices.Equal(got, want) {
		t.Errorf("Pending: %v, want %v", got, want)
	}
}

func wantCounts(t *testing.T, d *Disk, writes, flushes int64) {
	t.Helper()
	if d.Writes() != writes || d.Flushes() != flushes {
		t.Errorf("Writes, Flushes: %d, %d, want %d, %d", d.Writes(), d.Flushes(), writes, flushes)
	}
}

// fuseOf: behind how many flushes the power goes; -1, if it doesn't.
func fuseOf(d *Disk) int {
	d = d.Clone()
	d.Up()
	for n := range 100 {
		if d.Flush() != api.OK {
			return n
		}
	}
	return -1
}

// look: all that can be told of a disk.
func look(d *Disk) string {
	var s strings.Builder
	fmt.Fprintln(&s, d.Sectors(), d.Down(), d.Pending(), d.Writes(), d.Flushes(), fuseOf(d))
	for n := -1; n <= d.Sectors(); n++ {
		b, e := d.Read(n)
		sure, f := d.Sure(n)
		fmt.Fprintf(&s, "%d: %x %v, %x %v\n", n, b, e, sure, f)
	}
	return s.String()
}

// P5.1.
func TestNew(t *testing.T) {
	for _, n := range []int{math.MinInt, -1, 0, 4097, math.MaxInt} {
		if d, e := New(n); d != nil || e != api.ErrRange {
			t.Errorf("New(%d): %v %v", n, d, e)
		}
	}
	for _, n := range []int{1, 2, 4095, 4096} {
		d := mustNew(t, n)
		if d.Sectors() != n || d.Down() {
			t.Errorf("New(%d): %d sectors, down: %v", n, d.Sectors(), d.Down())
		}
		for i := range n {
			wantRead(t, d, i, mix(0, 0, 0))
			wantSure(t, d, i, mix(0, 0, 0))
		}
		wantPending(t, d)
		wantCounts(t, d, 0, 0)
		if f := fuseOf(d); f != -1 {
			t.Errorf("New(%d): a fuse %d", n, f)
		}
	}
}

// P5.2, and P2: what is refused has changed nothing.
func TestErrors(t *testing.T) {
	ok, long, short := 128, 129, 127
	for _, x := range []struct {
		down   bool
		n      int
		length int
		want   api.Errno
	}{
		{false, -1, ok, api.ErrRange},
		{false, 3, ok, api.ErrRange},
		{false, math.MinInt, long, api.ErrRange},
		{false, math.MaxInt, short, api.ErrRange},
		{false, -1, long, api.ErrRange},
		{false, 3, short, api.ErrRange},
		{false, 0, long, api.ErrLong},
		{false, 2, 256, api.ErrLong},
		{false, 0, short, api.ErrShort},
		{false, 2, 0, api.ErrShort},
		{true, 0, ok, api.ErrDown},
		{true, -1, ok, api.ErrDown},
		{true, 3, long, api.ErrDown},
		{true, 0, long, api.ErrDown},
		{true, 0, short, api.ErrDown},
	} {
		d := mustNew(t, 3)
		mustWrite(t, d, 1, 5)
		mustFlush(t, d)
		mustWrite(t, d, 0, 7)
		d.Fuse(3)
		if x.down {
			d.Crash(nil, 0, 64)
		}
		before := look(d)
		if e := d.Write(x.n, make([]byte, x.length)); e != x.want {
			t.Errorf("Write(%d) of %d bytes, down: %v: %v, want %v", x.n, x.length, x.down, e, x.want)
		}
		if after := look(d); after != before {
			t.Errorf("Write(%d) of %d bytes, down: %v: before\n%safter\n%s", x.n, x.length, x.down, before, after)
		}
	}
	d := mustNew(t, 3)
	for _, n := range []int{math.MinInt, -1, 3, 4096, math.MaxInt} {
		if b, e := d.Read(n); b != nil || e != api.ErrRange {
			t.Errorf("Read(%d): %x %v", n, b, e)
		}
		if b, e := d.Sure(n); b != nil || e != api.ErrRange {
			t.Errorf("Sure(%d): %x %v", n, b, e)
		}
	}
	d.Crash(nil, -1, 0)
	for _, n := range []int{-1, 0, 3} {
		if b, e := d.Read(n); b != nil || e != api.ErrDown {
			t.Errorf("Read(%d), down: %x %v", n, b, e)
		}
	}
	if b, e := d.Sure(3); b != nil || e != api.ErrRange {
		t.Errorf("Sure(3), down: %x %v", b, e)
	}
	before := look(d)
	if e := d.Flush(); e != api.ErrDown || look(d) != before {
		t.Errorf("Flush, down: %v", e)
	}
}

// P5.2.
func TestWriteAndFlush(t *testing.T) {
	d := mustNew(t, 5)
	mustWrite(t, d, 4, 1)
	mustWrite(t, d, 0, 2)
	mustWrite(t, d, 2, 3)
	mustWrite(t, d, 2, 4)
	wantPending(t, d, 0, 2, 4)
	wantCounts(t, d, 4, 0)
	wantRead(t, d, 2, mix(0, 0, 4))
	wantSure(t, d, 2, mix(0, 0, 0))
	wantRead(t, d, 1, mix(0, 0, 0))
	mustFlush(t, d)
	wantPending(t, d)
	wantCounts(t, d, 4, 1)
	for n, x := range []byte{2, 0, 4, 0, 1} {
		wantRead(t, d, n, mix(0, 0, x))
		wantSure(t, d, n, mix(0, 0, x))
	}
	mustWrite(t, d, 2, 4)
	wantPending(t, d, 2) // the same bytes were written, too
	mustFlush(t, d)
	mustFlush(t, d)
	wantCounts(t, d, 5, 3)
}

// P5.2: the sectors rise, however many there are and in whatever order they were written.
func TestPendingRises(t *testing.T) {
	d := mustNew(t, 4096)
	var want []int
	for _, n := range rand.New(rand.NewSource(1)).Perm(4096) {
		mustWrite(t, d, n, byte(n))
	}
	for n := range 4096 {
		want = append(want, n)
	}
	wantPending(t, d, want...)
	mustFlush(t, d)
	wantPending(t, d)
	for n := range 4096 {
		wantSure(t, d, n, mix(0, 0, byte(n)))
	}
}

// P5.3.
func TestFuse(t *testing.T) {
	for n := range 6 {
		d := mustNew(t, 2)
		mustWrite(t, d, 0, 1) // ahead of the fuse
		d.Fuse(n)
		for i := range n {
			if i%2 == 0 {
				mustWrite(t, d, 1, byte(i))
			} else {
				mustFlush(t, d)
			}
			d.Write(2, full(0))
			d.Write(0, full(0)[1:])
			d.Write(0, append(full(0), 0))
			if d.Down() {
				t.Fatalf("Fuse(%d): down behind %d", n, i+1)
			}
		}
		pending, writes, flushes := d.Pending(), d.Writes(), d.Flushes()
		for _, e := range []api.Errno{d.Write(2, full(0)), d.Write(0, nil), d.Write(0, make([]byte, 200))} {
			if e == api.ErrDown || d.Down() {
				t.Fatalf("Fuse(%d): what is refused was counted", n)
			}
		}
		if n%2 == 0 {
			if e := d.Write(0, full(9)); e != api.ErrDown {
				t.Errorf("Fuse(%d): the next Write: %v", n, e)
			}
		} else if e := d.Flush(); e != api.ErrDown {
			t.Errorf("Fuse(%d): the next Flush: %v", n, e)
		}
		if !d.Down() {
			t.Errorf("Fuse(%d): it isn't down", n)
		}
		wantPending(t, d, pending...)
		wantCounts(t, d, writes, flushes)
		if f := fuseOf(d); f != -1 {
			t.Errorf("Fuse(%d): there is a fuse still, %d", n, f)
		}
		d.Up()
		mustWrite(t, d, 0, 1)
		mustFlush(t, d)
	}
}

// P5.3: the last fuse counts, and one below 0 is none.
func TestFuseAgain(t *testing.T) {
	for _, n := range []int{-1, -2, math.MinInt} {
		d := mustNew(t, 1)
		d.Fuse(2)
		d.Fuse(n)
		for i := range 300 {
			if e := d.Write(0, full(byte(i))); e != api.OK {
				t.Fatalf("Fuse(%d): Write %d: %v", n, i, e)
			}
			mustFlush(t, d)
		}
	}
	d := mustNew(t, 1)
	d.Fuse(0)
	d.Fuse(1)
	mustFlush(t, d)
	d.Fuse(math.MaxInt)
	mustFlush(t, d)
	d.Up() // it is up: nothing changes, the fuse neither
	d.Fuse(4)
	d.Up()
	if f := fuseOf(d); f != 4 {
		t.Errorf("Fuse(4), Up: %d", f)
	}
}

// P5.3: a fuse that is set while it is down is there when it is up.
func TestFuseWhileDown(t *testing.T) {
	d := mustNew(t, 1)
	d.Crash(nil, 0, 0)
	d.Fuse(1)
	if e := d.Write(0, full(1)); e != api.ErrDown {
		t.Errorf("Write, down: %v", e)
	}
	if e := d.Flush(); e != api.ErrDown {
		t.Errorf("Flush, down: %v", e)
	}
	d.Up()
	mustWrite(t, d, 0, 1)
	if e := d.Flush(); e != api.ErrDown || !d.Down() {
		t.Errorf("Flush behind the fuse: %v", e)
	}
}

// P5.2, P5.3 and P5.4: what the fuse left may be crashed still, or be gone.
func TestFuseThenCrash(t *testing.T) {
	for _, crash := range []bool{false, true} {
		d := mustNew(t, 2)
		mustWrite(t, d, 0, 1)
		mustWrite(t, d, 1, 1)
		d.Fuse(0)
		if e := d.Flush(); e != api.ErrDown {
			t.Fatalf("Flush: %v", e)
		}
		wantPending(t, d, 0, 1)
		want := mix(0, 0, 0)
		if crash {
			d.Crash([]int{1}, -1, 0)
			wantPending(t, d)
			want = mix(0, 0, 1)
		}
		wantSure(t, d, 0, mix(0, 0, 0))
		wantSure(t, d, 1, want)
		d.Up()
		wantPending(t, d)
		wantRead(t, d, 0, mix(0, 0, 0))
		wantRead(t, d, 1, want)
	}
}

// P5.4.
func TestCrash(t *testing.T) {
	for _, x := range []struct {
		keep     []int
		tear, at int
		want     [4]int // how many bytes are new
	}{
		{nil, 0, 3, [4]int{3, 0, 0, 0}}, // the document's example
		{nil, -1, 128, [4]int{}},
		{nil, 4, 128, [4]int{}},
		{nil, 3, 128, [4]int{}}, // sector 3 wasn't written
		{nil, 1, -1, [4]int{}},
		{nil, 1, math.MinInt, [4]int{}},
		{nil, 1, 0, [4]int{}},
		{nil, 1, 1, [4]int{0, 1, 0, 0}},
		{nil, 1, 127, [4]int{0, 127, 0, 0}},
		{nil, 1, 128, [4]int{0, 128, 0, 0}},
		{nil, 1, 129, [4]int{0, 128, 0, 0}},
		{nil, 1, math.MaxInt, [4]int{0, 128, 0, 0}},
		{[]int{}, 2, 64, [4]int{0, 0, 64, 0}},
		{[]int{2}, 2, 64, [4]int{0, 0, 128, 0}},
		{[]int{2}, 2, -1, [4]int{0, 0, 128, 0}},
		{[]int{2, 0}, 1, 64, [4]int{128, 64, 128, 0}},
		{[]int{0, 1, 2, 3}, -1, 0, [4]int{128, 128, 128, 0}},
		{[]int{1, 1, 1, -1, 4, 3, 4096, math.MinInt, math.MaxInt}, 0, 5, [4]int{5, 128, 0, 0}},
	} {
		d := mustNew(t, 4)
		for n := range 4 {
			mustWrite(t, d, n, 7)
		}
		mustFlush(t, d)
		for n := range 3 {
			mustWrite(t, d, n, 9)
		}
		d.Fuse(50)
		d.Crash(x.keep, x.tear, x.at)
		if !d.Down() {
			t.Errorf("Crash(%v, %d, %d): it isn't down", x.keep, x.tear, x.at)
		}
		wantPending(t, d)
		wantCounts(t, d, 7, 1)
		if f := fuseOf(d); f != -1 {
			t.Errorf("Crash(%v, %d, %d): a fuse %d", x.keep, x.tear, x.at, f)
		}
		for n, count := range x.want {
			wantSure(t, d, n, mix(count, 9, 7))
		}
		d.Crash([]int{0, 1, 2, 3}, 0, 128)
		d.Up()
		if d.Down() {
			t.Errorf("Crash(%v, %d, %d), Up: it is down", x.keep, x.tear, x.at)
		}
		for n, count := range x.want {
			wantSure(t, d, n, mix(count, 9, 7))
			wantRead(t, d, n, mix(count, 9, 7))
		}
		wantPending(t, d)
	}
}

// P5.4: while it is up, Up is nothing.
func TestUpWhileUp(t *testing.T) {
	d := mustNew(t, 1)
	mustWrite(t, d, 0, 3)
	d.Fuse(2)
	before := look(d)
	d.Up()
	if after := look(d); after != before {
		t.Errorf("Up: before\n%safter\n%s", before, after)
	}
}

// P5.5.
func TestSpoil(t *testing.T) {
	d := mustNew(t, 2)
	mustWrite(t, d, 1, 0x0f)
	mustFlush(t, d)
	mustWrite(t, d, 1, 0xaa)
	before := look(d)
	for _, x := range [][2]int{{-1, 0}, {2, 0}, {0, -1}, {0, 128}, {math.MinInt, 0}, {math.MaxInt, 0}, {1, math.MinInt}, {1, math.MaxInt}, {-1, -1}, {2, 128}} {
		if e := d.Spoil(x[0], x[1], 1); e != api.ErrRange {
			t.Errorf("Spoil(%d, %d): %v", x[0], x[1], e)
		}
	}
	if after := look(d); after != before {
		t.Errorf("Spoil: before\n%safter\n%s", before, after)
	}
	d.Fuse(1)
	for _, at := range []int{0, 127} {
		if e := d.Spoil(1, at, 0x3c); e != api.OK {
			t.Errorf("Spoil(1, %d): %v", at, e)
		}
	}
	want := "\x33" + strings.Repeat("\x0f", 126) + "\x33"
	wantSure(t, d, 1, want)
	wantRead(t, d, 1, mix(0, 0, 0xaa)) // what was written is as it was
	wantPending(t, d, 1)
	wantCounts(t, d, 2, 1)
	if f := fuseOf(d); f != 1 {
		t.Errorf("Spoil took of the fuse: %d", f)
	}
	d.Crash(nil, 1, 1)
	if e := d.Spoil(1, 5, 0xff); e != api.OK {
		t.Errorf("Spoil, down: %v", e)
	}
	if e := d.Spoil(1, 6, 0); e != api.OK {
		t.Errorf("Spoil by 0: %v", e)
	}
	wantSure(t, d, 1, "\xaa"+want[1:5]+"\xf0"+want[6:])
}

// P5.5.
func TestClone(t *testing.T) {
	d := mustNew(t, 3)
	mustWrite(t, d, 0, 1)
	mustFlush(t, d)
	mustWrite(t, d, 0, 2)
	mustWrite(t, d, 2, 3)
	d.Fuse(2)
	up := d.Clone()
	wantCounts(t, d, 3, 1)
	wantCounts(t, up, 0, 0)
	wantPending(t, up, 0, 2)
	if up.Sectors() != 3 || up.Down() || fuseOf(up) != 2 {
		t.Errorf("Clone: %d sectors, down: %v, fuse %d", up.Sectors(), up.Down(), fuseOf(up))
	}
	for n := range 3 {
		r, _ := d.Read(n)
		s, _ := d.Sure(n)
		wantRead(t, up, n, string(r))
		wantSure(t, up, n, string(s))
	}
	d.Fuse(-1)
	before := look(d)
	mustWrite(t, up, 1, 9)
	mustFlush(t, up)
	wantCounts(t, up, 1, 1)
	up.Spoil(1, 0, 1)
	up.Fuse(7)
	up.Crash(nil, 0, 0)
	if after := look(d); after != before {
		t.Errorf("Clone: before\n%safter\n%s", before, after)
	}
	down := up.Clone()
	if !down.Down() || fuseOf(down) != -1 {
		t.Errorf("Clone of one that is down: down: %v, fuse %d", down.Down(), fuseOf(down))
	}
	before = look(down)
	mustWrite(t, d, 0, 8)
	mustFlush(t, d)
	up.Up()
	mustWrite(t, up, 0, 7)
	mustFlush(t, up)
	if after := look(down); after != before {
		t.Errorf("Clone: before\n%safter\n%s", before, after)
	}
}

// P5.5: one whose power the fuse took has what wasn't durable, and so has its clone.
func TestCloneBehindFuse(t *testing.T) {
	d := mustNew(t, 2)
	mustWrite(t, d, 1, 4)
	d.Fuse(0)
	d.Flush()
	c := d.Clone()
	wantPending(t, c, 1)
	c.Crash([]int{1}, 0, 0)
	wantSure(t, c, 1, mix(0, 0, 4))
	wantPending(t, d, 1)
	wantSure(t, d, 1, mix(0, 0, 0))
}

// P2: what is handed in is neither changed nor kept, and what is answered is new memory, its spare room too.
func TestMemory(t *testing.T) {
	d := mustNew(t, 3)
	room := append(full(1), full(5)...)
	if e := d.Write(0, room[:128]); e != api.OK {
		t.Fatalf("Write: %v", e)
	}
	if !bytes.Equal(room, append(full(1), full(5)...)) {
		t.Error("Write changed its argument")
	}
	clear(room)
	mustWrite(t, d, 1, 2)
	keep := []int{0, 2, 1}
	before := look(d)
	for n := range 3 {
		for range 2 {
			b, _ := d.Read(n)
			s, _ := d.Sure(n)
			spill(b)
			spill(s)
		}
	}
	p := d.Pending()
	p = p[:cap(p)]
	for i := range p {
		p[i] = 2
	}
	if after := look(d); after != before {
		t.Errorf("before\n%safter\n%s", before, after)
	}
	mustFlush(t, d)
	before = look(d)
	for n := range 3 {
		b, _ := d.Read(n)
		s, _ := d.Sure(n)
		spill(b)
		spill(s)
	}
	if after := look(d); after != before {
		t.Errorf("before\n%safter\n%s", before, after)
	}
	mustWrite(t, d, 2, 9)
	d.Crash(keep[:2], 0, 0)
	if !slices.Equal(keep, []int{0, 2, 1}) {
		t.Errorf("Crash changed its argument: %v", keep)
	}
	wantSure(t, d, 0, mix(0, 0, 1))
	wantSure(t, d, 2, mix(0, 0, 9))
}

// spill: every byte is another one, those of the spare room too.
func spill(b []byte) {
	b = b[:cap(b)]
	for i := range b {
		b[i] ^= 0x55
	}
}

// told is a disk as the document's words have it: the last bytes of each sector, and the durable ones.
type told struct {
	last, sure      []string
	waits           []bool
	down            bool
	fuse            int // none, if below 0
	writes, flushes int64
}

func newTold(n int) *told {
	m := &told{waits: make([]bool, n), fuse: -1}
	for range n {
		m.last, m.sure = append(m.last, mix(0, 0, 0)), append(m.sure, mix(0, 0, 0))
	}
	return m
}

func (m *told) burn() bool {
	if m.fuse == 0 {
		m.down, m.fuse = true, -1
		return true
	}
	if m.fuse > 0 {
		m.fuse--
	}
	return false
}

func (m *told) write(n int, b string) api.Errno {
	if m.down {
		return api.ErrDown
	}
	if n < 0 || n >= len(m.last) {
		return api.ErrRange
	}
	if len(b) > 128 {
		return api.ErrLong
	}
	if len(b) < 128 {
		return api.ErrShort
	}
	if m.burn() {
		return api.ErrDown
	}
	m.last[n], m.waits[n] = b, true
	m.writes++
	return api.OK
}

func (m *told) flush() api.Errno {
	if m.down || m.burn() {
		return api.ErrDown
	}
	for n := range m.last {
		m.sure[n], m.waits[n] = m.last[n], false
	}
	m.flushes++
	return api.OK
}

func (m *told) lose() {
	for n := range m.last {
		m.last[n], m.waits[n] = m.sure[n], false
	}
}

func (m *told) crash(keep []int, tear, at int) {
	for n := range m.last {
		if !m.waits[n] {
			continue
		}
		if slices.Contains(keep, n) {
			m.sure[n] = m.last[n]
		} else if n == tear && at > 128 {
			m.sure[n] = m.last[n]
		} else if n == tear && at >= 0 {
			m.sure[n] = m.last[n][:at] + m.sure[n][at:]
		}
	}
	m.lose()
	m.down, m.fuse = true, -1
}

func (m *told) up() {
	if m.down {
		m.lose()
	}
	m.down = false
}

func (m *told) spoil(n, at int, x byte) api.Errno {
	if n < 0 || n >= len(m.sure) || at < 0 || at > 127 {
		return api.ErrRange
	}
	b := []byte(m.sure[n])
	b[at] ^= x
	m.sure[n] = string(b)
	if !m.waits[n] {
		m.last[n] = m.sure[n]
	}
	return api.OK
}

func (m *told) look() string {
	var s strings.Builder
	var pending []int
	for n, w := range m.waits {
		if w {
			pending = append(pending, n)
		}
	}
	fmt.Fprintln(&s, len(m.last), m.down, pending, m.writes, m.flushes, m.fuse)
	for n := -1; n <= len(m.last); n++ {
		var read, sure string
		e, f := api.ErrRange, api.ErrRange
		if n >= 0 && n < len(m.last) {
			read, sure, e, f = m.last[n], m.sure[n], api.OK, api.OK
		}
		if m.down {
			read, e = "", api.ErrDown
		}
		fmt.Fprintf(&s, "%d: %x %v, %x %v\n", n, read, e, sure, f)
	}
	return s.String()
}

// P1 and P5.1 to P5.5: steps by chance, against the document's words.
func TestSteps(t *testing.T) {
	r := rand.New(rand.NewSource(5))
	for range 60 {
		n := 1 + r.Intn(4)
		d, m := mustNew(t, n), newTold(n)
		for range 120 {
			what, e, f := step(r, &d, m)
			if got, want := look(d), m.look(); e != f || got != want {
				t.Fatalf("%s: %v, want %v; got\n%swant\n%s", what, e, f, got, want)
			}
		}
	}
}

// step: one call of a disk and of what is told of it, and what both answered.
func step(r *rand.Rand, d **Disk, m *told) (string, api.Errno, api.Errno) {
	n, at, x := r.Intn(6)-1, r.Intn(140)-5, byte(r.Intn(256))
	switch r.Intn(16) {
	case 0, 1, 2, 3, 4:
		b := strings.Repeat(string([]byte{x}), 128+max(0, r.Intn(9)-7)-max(0, r.Intn(9)-7))
		return fmt.Sprintf("Write(%d) of %d bytes", n, len(b)), (*d).Write(n, []byte(b)), m.write(n, b)
	case 5, 6:
		return "Flush", (*d).Flush(), m.flush()
	case 7:
		m.fuse = r.Intn(8) - 1
		(*d).Fuse(m.fuse)
		return fmt.Sprintf("Fuse(%d)", m.fuse), 0, 0
	case 8, 9:
		keep := []int{r.Intn(6) - 1, r.Intn(6) - 1}[:r.Intn(3)]
		(*d).Crash(keep, n, at)
		m.crash(keep, n, at)
		return fmt.Sprintf("Crash(%v, %d, %d)", keep, n, at), 0, 0
	case 10, 11, 12:
		(*d).Up()
		m.up()
		return "Up", 0, 0
	case 13, 14:
		return fmt.Sprintf("Spoil(%d, %d, %d)", n, at, x), (*d).Spoil(n, at, x), m.spoil(n, at, x)
	}
	*d = (*d).Clone()
	m.writes, m.flushes = 0, 0
	return "Clone", 0, 0
}
