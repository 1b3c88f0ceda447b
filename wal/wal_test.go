package wal

import (
	"bytes"
	"encoding/binary"
	"fmt"
	"hash/crc32"
	"math"
	"math/rand"
	"slices"
	"strings"
	"testing"

	"foliot/api"
	"foliot/disk"
	"foliot/mark"
)

// twoSegs, threeSegs: how many sectors a log of so many segments has at least.
const (
	twoSegs   = 2 + 2*16
	threeSegs = 2 + 3*16
)

// data: n bytes, always the same ones, none of them 0.
func data(n int) []byte {
	b := make([]byte, n)
	for i := range b {
		b[i] = 1 + byte(i*7+n)%255
	}
	return b
}

// frame: a frame's bytes, as the document's words have them.
func frame(at uint64, kind int, data []byte) []byte {
	n := uint32(len(data))
	summed := binary.LittleEndian.AppendUint64(nil, at)
	summed = binary.LittleEndian.AppendUint32(summed, n)
	summed = append(append(summed, byte(kind)), data...)
	b := binary.LittleEndian.AppendUint32(nil, n)
	b = binary.LittleEndian.AppendUint32(b, crc32.ChecksumIEEE(summed))
	return append(append(b, byte(kind)), data...)
}

// behind: a log's bytes from begin on, and a frame more behind them, with the rest of a segment ahead of it, if it doesn't fit into that.
func behind(begin uint64, log []byte, kind int, data []byte) []byte {
	at := begin + uint64(len(log))
	if in := at % 2048; in+9+uint64(len(data)) > 2048 {
		log = append(log, make([]byte, 2048-in)...)
		at += 2048 - in
	}
	return append(log, frame(at, kind, data)...)
}

// mustDisk: a disk without marks, whose other sectors are full of garbage.
func mustDisk(t *testing.T, sectors int) *disk.Disk {
	t.Helper()
	d, e := disk.New(sectors)
	if e != api.OK {
		t.Fatalf("disk.New(%d): %v", sectors, e)
	}
	for n := 2; n < sectors; n++ {
		if e := d.Write(n, bytes.Repeat([]byte{0xee}, 128)); e != api.OK {
			t.Fatalf("Write(%d): %v", n, e)
		}
	}
	mustFlush(t, d)
	return d
}

func mustFlush(t *testing.T, d *disk.Disk) {
	t.Helper()
	if e := d.Flush(); e != api.OK {
		t.Fatalf("Flush: %v", e)
	}
}

// place: on which sector a byte of the log stands.
func place(d *disk.Disk, at uint64) int {
	return 2 + int(at/128%uint64((d.Sectors()-2)/16*16))
}

// mustLay: a disk has these bytes from a place of the log on, and a mark with where it begins and ends.
func mustLay(t *testing.T, d *disk.Disk, at uint64, b []byte, begin, end uint64) {
	t.Helper()
	for i, x := range b {
		n := at + uint64(i)
		s, e := d.Read(place(d, n))
		if e != api.OK {
			t.Fatalf("Read: %v", e)
		}
		s[n%128] = x
		d.Write(place(d, n), s)
	}
	if _, e := mark.Put(d, 0, begin, end); e != api.OK {
		t.Fatalf("mark.Put: %v", e)
	}
}

// durable: the bytes of a log from one place to another one.
func durable(d *disk.Disk, from, to uint64) []byte {
	var b []byte
	for at := from; at < to; at++ {
		s, _ := d.Sure(place(d, at))
		b = append(b, s[at%128])
	}
	return b
}

// look: all that can be told of a disk.
func look(d *disk.Disk) string {
	var s strings.Builder
	fmt.Fprintln(&s, d.Down(), d.Pending(), d.Writes(), d.Flushes())
	for n := range d.Sectors() {
		b, _ := d.Read(n)
		sure, _ := d.Sure(n)
		fmt.Fprintf(&s, "%x %x\n", b, sure)
	}
	return s.String()
}

// lookLog: all that can be told of a log without a change of it.
func lookLog(l *Log) string {
	begin, end := l.Ends()
	return fmt.Sprint(begin, end, l.Left(), l.Waiting())
}

// tell: frames in few words.
func tell(list []Frame) string {
	var s strings.Builder
	for _, f := range list {
		fmt.Fprintf(&s, "%d:%d:%08x ", f.Kind, len(f.Data), crc32.ChecksumIEEE(f.Data))
	}
	return s.String()
}

func mustOpen(t *testing.T, d *disk.Disk) (*Log, []Frame) {
	t.Helper()
	l, list, e := Open(d)
	if e != api.OK || l == nil {
		t.Fatalf("Open: %v", e)
	}
	return l, list
}

func mustSubmit(t *testing.T, l *Log, b []byte) {
	t.Helper()
	if e := l.Submit(b); e != api.OK {
		t.Fatalf("Submit of %d bytes: %v", len(b), e)
	}
}

func mustCommit(t *testing.T, l *Log, want int) {
	t.Helper()
	if n, e := l.Commit(); n != want || e != api.OK {
		t.Fatalf("Commit: %d %v, want %d", n, e, want)
	}
}

func mustCheckpoint(t *testing.T, l *Log, b []byte) {
	t.Helper()
	if e := l.Checkpoint(b); e != api.OK {
		t.Fatalf("Checkpoint of %d bytes: %v", len(b), e)
	}
}

// mustKeep: batches of so many bytes are durable.
func mustKeep(t *testing.T, l *Log, sizes ...int) {
	t.Helper()
	for _, n := range sizes {
		mustSubmit(t, l, data(n))
	}
	mustCommit(t, l, len(sizes))
}

func wantEnds(t *testing.T, l *Log, begin, end uint64) {
	t.Helper()
	if b, e := l.Ends(); b != begin || e != end {
		t.Errorf("Ends: %d, %d, want %d, %d", b, e, begin, end)
	}
}

// wantLog: a log that is opened anew begins and ends there, and tells these frames.
func wantLog(t *testing.T, d *disk.Disk, begin, end uint64, want ...Frame) {
	t.Helper()
	l, list := mustOpen(t, d)
	wantEnds(t, l, begin, end)
	if got, want := tell(list), tell(want); got != want {
		t.Errorf("Open tells %s, want %s", got, want)
	}
}

// The document's example, and the bytes of it; P8.4 and P8.5: how often the disk is flushed.
func TestExample(t *testing.T) {
	d := mustDisk(t, twoSegs)
	l, list := mustOpen(t, d)
	if len(list) > 0 {
		t.Errorf("a new log tells %v", list)
	}
	wantEnds(t, l, 0, 0)
	mustSubmit(t, l, []byte("one"))
	mustSubmit(t, l, []byte("two"))
	wantEnds(t, l, 0, 0)
	flushes := d.Flushes()
	mustCommit(t, l, 2)
	if d.Flushes() != flushes+2 || l.Waiting() != 0 {
		t.Errorf("Commit: %d flushes, %d wait", d.Flushes()-flushes, l.Waiting())
	}
	wantEnds(t, l, 0, 24)
	want := slices.Concat(frame(0, 1, []byte("one")), frame(12, 1, []byte("two")))
	if got := durable(d, 0, 24); !bytes.Equal(got, want) {
		t.Errorf("two batches: %x, want %x", got, want)
	}
	if m, e := mark.Get(d, 0); m.W != [6]uint64{0, 24} || e != api.OK {
		t.Errorf("the mark: %v %v", m, e)
	}
	wantLog(t, d, 0, 24, Frame{Batch, []byte("one")}, Frame{Batch, []byte("two")})
	flushes = d.Flushes()
	mustCheckpoint(t, l, []byte("all"))
	if d.Flushes() != flushes+2 {
		t.Errorf("Checkpoint: %d flushes", d.Flushes()-flushes)
	}
	wantEnds(t, l, 24, 36)
	if got := durable(d, 0, 36); !bytes.Equal(got, append(want, frame(24, 3, []byte("all"))...)) {
		t.Errorf("a checkpoint: %x", got)
	}
	if m, e := mark.Get(d, 0); m.W != [6]uint64{24, 36} || e != api.OK {
		t.Errorf("the mark: %v %v", m, e)
	}
	wantLog(t, d, 24, 36, Frame{Last, []byte("all")})
}

// P8.1: the segments of a disk.
func TestSegments(t *testing.T) {
	for sectors, want := range map[int]int{1: 0, 2: 0, 3: 0, 17: 0, 18: 0, 33: 0, 34: 2, 49: 2, 50: 3, 65: 3, 66: 4, 4081: 254, 4082: 255, 4096: 255} {
		d, _ := disk.New(sectors)
		l, list, e := Open(d)
		if want == 0 {
			if l != nil || list != nil || e != api.ErrRange {
				t.Errorf("%d sectors: %v %v %v", sectors, l, list, e)
			}
			d.Crash(nil, -1, 0)
			if _, _, e := Open(d); e != api.ErrRange {
				t.Errorf("%d sectors, down: %v", sectors, e)
			}
			continue
		}
		if e != api.OK || len(list) > 0 || l.Left() != 2048*want {
			t.Errorf("%d sectors: %v, %v, left %d", sectors, e, list, l.Left())
		}
	}
}

// P8.1 and P8.4: a frame fits into the rest of a segment, or begins with the next one, behind bytes 0.
func TestSegmentEnds(t *testing.T) {
	for rest := range 40 {
		for _, n := range []int{0, 1, 2, max(0, rest-10), max(0, rest-9), max(0, rest-8), 100, 2039} {
			for _, together := range []bool{false, true} {
				d := mustDisk(t, threeSegs)
				l, _ := mustOpen(t, d)
				first := 2048 - 9 - rest
				if together {
					mustKeep(t, l, first, n)
				} else {
					mustKeep(t, l, first)
					mustKeep(t, l, n)
				}
				want := behind(0, behind(0, nil, 1, data(first)), 1, data(n))
				end := uint64(len(want))
				wantEnds(t, l, 0, end)
				if fits := rest >= 9+n; fits != (end <= 2048) {
					t.Errorf("rest %d, %d bytes: the end is %d", rest, n, end)
				}
				wantLog(t, d, 0, end, Frame{Batch, data(first)}, Frame{Batch, data(n)})
				mustKeep(t, l, 5)
				want = behind(0, want, 1, data(5))
				if got := durable(d, 0, uint64(len(want))); !bytes.Equal(got, want) {
					t.Errorf("rest %d, %d bytes: %x, want %x", rest, n, got[first:], want[first:])
				}
			}
		}
	}
}

// P8.2: the errors ahead of the frames, each ahead of the next.
func TestOpenErrors(t *testing.T) {
	size := uint64(4096)
	for _, x := range []struct {
		begin, end uint64
		want       api.Errno
	}{
		{1, 0, api.ErrForm},
		{math.MaxUint64, 0, api.ErrForm},
		{math.MaxUint64, math.MaxUint64, api.ErrForm},
		{1 << 62, 1<<62 + 1, api.ErrForm},
		{0, 1<<62 + 1, api.ErrForm},
		{1<<62 + 1, 1<<62 + 1, api.ErrForm},
		{1<<62 + 1, 1 << 62, api.ErrForm},
		{0, math.MaxUint64, api.ErrForm},
		{0, 1 << 62, api.ErrMissing},
		{1<<62 - size - 1, 1 << 62, api.ErrMissing},
		{1<<62 - size, 1 << 62, api.OK},
		{1 << 62, 1 << 62, api.OK},
		{0, size + 1, api.ErrMissing},
		{127, size + 1, api.ErrMissing},
		{128, size + 1, api.ErrForm}, // a byte is no rest of the next segment
		{128, size + 9, api.OK},
		{128, size + 128, api.OK},
		{128, size + 129, api.ErrMissing},
		{0, size, api.OK},
		{0, 0, api.OK},
		{77, 77, api.OK},
	} {
		d, _ := disk.New(twoSegs) // bytes 0 are the rests of segments
		mustLay(t, d, 0, nil, x.begin, x.end)
		before := look(d)
		l, list, e := Open(d)
		if e != x.want || (l == nil) != (e != api.OK) || len(list) > 0 {
			t.Errorf("from %d to %d: %v %v %v, want %v", x.begin, x.end, l, list, e, x.want)
		}
		if l != nil {
			wantEnds(t, l, x.begin, x.end)
		}
		if look(d) != before {
			t.Errorf("from %d to %d: the disk is changed", x.begin, x.end)
		}
		if x.want == api.ErrMissing {
			mustLay(t, d, x.end-200, bytes.Repeat([]byte{0xee}, 200), x.begin, x.end)
			if l, list, e := Open(d); l != nil || list != nil || e != api.ErrMissing {
				t.Errorf("from %d to %d, no frames: %v %v %v", x.begin, x.end, l, list, e)
			}
		}
		d.Crash(nil, -1, 0)
		if l, list, e := Open(d); l != nil || list != nil || e != api.ErrDown {
			t.Errorf("from %d to %d, down: %v %v %v", x.begin, x.end, l, list, e)
		}
	}
}

// P8.1 and P8.2: a mark that is torn is none: the log is where the other one says; without any it is empty.
func TestOpenMark(t *testing.T) {
	d := mustDisk(t, twoSegs)
	l, _ := mustOpen(t, d)
	mustKeep(t, l, 3)
	mustKeep(t, l, 4)
	for at := range 112 {
		c := d.Clone()
		c.Spoil(0, at, 1) // the second mark's
		wantLog(t, c, 0, 12, Frame{Batch, data(3)})
	}
	d.Spoil(0, 0, 1)
	d.Spoil(1, 0, 1)
	wantLog(t, d, 0, 0)
}

// altered: bytes of which some are others.
func altered(b []byte, at int, with ...byte) []byte {
	b = slices.Clone(b)
	copy(b[at:], with)
	return b
}

// P8.2: frames that are none.
func TestOpenFrames(t *testing.T) {
	none := make([]byte, 60)
	good, sum := frame(0, 1, data(3)), altered(frame(0, 1, data(3)), 11, 99)
	for i, x := range []struct {
		at   uint64
		b    []byte
		end  uint64 // how far the log goes behind at
		want api.Errno
		told string
	}{
		{0, good, 12, api.OK, "1:3"},
		{0, frame(0, 2, data(3)), 12, api.OK, "2:3"},
		{0, frame(0, 3, nil), 9, api.OK, "3:0"},
		{0, frame(0, 1, nil), 9, api.OK, "1:0"},
		{0, frame(0, 1, data(2039)), 2048, api.OK, "1:2039"},
		{5, frame(5, 1, data(2034)), 2043, api.OK, "1:2034"},
		{2048 + 20, frame(2068, 1, data(9)), 18, api.OK, "1:9"},
		{1 << 40, frame(1<<40, 1, data(9)), 18, api.OK, "1:9"},
		// It reaches beyond the log's end.
		{0, good, 11, api.ErrForm, ""},
		{0, good, 9, api.ErrForm, ""},
		{0, good, 8, api.ErrForm, ""},
		{0, good, 1, api.ErrForm, ""},
		{0, none, 8, api.ErrForm, ""},
		{0, none, 1, api.ErrForm, ""},
		{0, frame(0, 1, nil), 8, api.ErrForm, ""},
		{0, append(good, frame(12, 1, data(5))...), 25, api.ErrForm, ""},
		{0, append(good, none...), 20, api.ErrForm, ""},
		{0, altered(good, 0, 255, 255, 255, 255), 12, api.ErrForm, ""},
		{0, altered(good, 0, 4), 12, api.ErrForm, ""},
		{0, altered(good, 3, 1), 12, api.ErrForm, ""},
		{0, altered(good, 3, 128), 12, api.ErrForm, ""},
		// It reaches beyond its segment.
		{5, frame(5, 1, data(2035)), 2044, api.ErrForm, ""},
		{0, frame(0, 1, data(2040)), 2049, api.ErrForm, ""},
		{2048 - 9, frame(2048-9, 1, data(1)), 10, api.ErrForm, ""},
		{2048 - 9, frame(2048-9, 1, nil), 9, api.OK, "1:0"},
		// It is of no kind.
		{0, frame(0, 0, data(3)), 12, api.ErrForm, ""},
		{0, frame(0, 4, data(3)), 12, api.ErrForm, ""},
		{0, frame(0, 255, data(3)), 12, api.ErrForm, ""},
		{0, frame(0, 0, nil), 9, api.ErrForm, ""},
		{0, altered(good, 4, 9, 9, 9, 9, 0), 12, api.ErrForm, ""},
		{0, altered(none, 0, 1), 20, api.ErrForm, ""},
		{0, altered(none, 4, 1), 20, api.ErrForm, ""},
		{0, altered(none, 7, 1), 20, api.ErrForm, ""},
		// Its sum isn't right.
		{0, sum, 12, api.ErrSum, ""},
		{0, altered(good, 4, 9, 9, 9, 9), 12, api.ErrSum, ""},
		{0, altered(good, 8, 2), 12, api.ErrSum, ""},
		{0, altered(good, 0, 2), 12, api.ErrSum, ""},
		{0, altered(none, 8, 1), 20, api.ErrSum, ""},
		{0, frame(1, 1, data(3)), 12, api.ErrSum, ""},
		{4096, frame(0, 1, data(3)), 12, api.ErrSum, ""},
		{1 << 32, frame(0, 1, data(3)), 12, api.ErrSum, ""},
		// The first one that is none counts.
		{0, append(sum, altered(frame(12, 1, nil), 8, 4)...), 21, api.ErrSum, ""},
		{0, append(altered(good, 8, 0), altered(frame(12, 1, nil), 4, 1, 2)...), 21, api.ErrForm, ""},
		{0, append(good, altered(frame(12, 1, nil), 4, 1, 2)...), 21, api.ErrSum, ""},
		// The rest of a segment.
		{2048 - 9, none[:9], 9, api.OK, ""},
		{2048 - 8, bytes.Repeat([]byte{7}, 8), 8, api.OK, ""},
		{2048 - 8, bytes.Repeat([]byte{7}, 8), 5, api.OK, ""},
		{2048 - 1, []byte{7}, 1, api.OK, ""},
		{2048 - 8, append([]byte("restrest"), frame(2048, 1, data(4))...), 21, api.OK, "1:4"},
		{2048 - 9, append([]byte("restrestr"), frame(2048, 1, data(4))...), 22, api.ErrForm, ""},
		{2048 - 9, append(none[:9:9], frame(2048, 1, data(4))...), 22, api.OK, "1:4"},
		{2048 - 60, append(slices.Clone(none), frame(2048, 1, data(4))...), 73, api.OK, "1:4"},
		{2048 - 60, append(altered(none, 9, 1, 2, 3), frame(2048, 1, data(4))...), 73, api.OK, "1:4"},
		{2048 - 60, append(altered(none, 8, 1), frame(2048, 1, data(4))...), 73, api.ErrSum, ""},
		{2048 - 60, none, 30, api.OK, ""},
		{2048 - 60, none, 9, api.OK, ""},
		{2048 - 60, none, 8, api.ErrForm, ""},
		{2048 - 60, append(slices.Clone(none), frame(2048-60, 1, data(4))...), 73, api.ErrSum, ""},
		{2048 - 21, slices.Concat(frame(2048-21, 1, data(3)), none[:9], frame(2048, 2, nil)), 30, api.OK, "1:3 2:0"},
		{2048 - 20, slices.Concat(frame(2048-20, 1, data(3)), []byte("12345678"), frame(2048, 2, nil)), 29, api.OK, "1:3 2:0"},
		{2048, make([]byte, 2048+60), 2048, api.OK, ""},
	} {
		d := mustDisk(t, threeSegs)
		mustLay(t, d, x.at, x.b, x.at, x.at+x.end)
		before := look(d)
		l, list, e := Open(d)
		var told []string
		for _, f := range list {
			if !bytes.Equal(f.Data, data(len(f.Data))) {
				t.Errorf("log %d: %v", i, f)
			}
			told = append(told, fmt.Sprintf("%d:%d", f.Kind, len(f.Data)))
		}
		if got := strings.Join(told, " "); e != x.want || got != x.told || (l == nil) != (e != api.OK) || e != api.OK && list != nil {
			t.Errorf("log %d: %v, %v, want %v, %v", i, got, e, x.told, x.want)
		}
		if look(d) != before {
			t.Errorf("log %d: the disk is changed", i)
		}
	}
}

// P8.2: any bit of a log is another one.
func TestOpenSpoiled(t *testing.T) {
	d := mustDisk(t, twoSegs)
	l, _ := mustOpen(t, d)
	mustKeep(t, l, 5, 0, 300)
	_, end := l.Ends()
	for at := range end {
		for bit := range 8 {
			c := d.Clone()
			c.Spoil(place(c, at), int(at%128), 1<<bit)
			if l, list, e := Open(c); l != nil || list != nil || e != api.ErrForm && e != api.ErrSum {
				t.Errorf("the byte %d, the bit %d: %v %v", at, bit, tell(list), e)
			}
		}
	}
	for n := 2; n < twoSegs; n++ {
		for at := range 128 {
			if p := uint64((n-2)*128 + at); p >= end {
				d.Spoil(n, at, 0xff)
			}
		}
	}
	wantLog(t, d, 0, end, Frame{Batch, data(5)}, Frame{Batch, nil}, Frame{Batch, data(300)})
}

// P8.2.
func TestCost(t *testing.T) {
	for n, want := range map[int]int{0: 17, 1: 19, 3: 23, 100: 217, 2039: 4095, -1: 15} {
		if got := Cost(n); got != want {
			t.Errorf("Cost(%d) = %d, want %d", n, got, want)
		}
	}
	for _, n := range []int{math.MinInt, math.MaxInt} {
		Cost(n)
	}
	// A batch for which there is as much is kept wherever the log ends; and that much it may take.
	for _, n := range []int{0, 1, 30, 500} {
		for rest := range 2*n + 30 {
			l, _ := mustOpen(t, mustDisk(t, threeSegs))
			mustKeep(t, l, 2048-9-rest)
			left := l.Left()
			mustKeep(t, l, n)
			taken := left - l.Left()
			if taken > Cost(n) || rest == 9+n-1 && taken != Cost(n) {
				t.Errorf("%d bytes, rest %d: %d taken, Cost %d", n, rest, taken, Cost(n))
			}
		}
	}
}

// P8.2: layer 7's Left of where the log begins, which is spared with its sector.
func TestLeft(t *testing.T) {
	l, _ := mustOpen(t, mustDisk(t, twoSegs))
	for _, x := range []struct{ size, want int }{{3, 4096 - 12}, {107, 4096 - 128}, {0, 4096 - 137}} {
		mustKeep(t, l, x.size)
		if l.Left() != x.want {
			t.Errorf("Left: %d, want %d", l.Left(), x.want)
		}
	}
	mustCheckpoint(t, l, nil) // from 137 to 146: the sector from 128 on is spared
	if l.Left() != 4096-18 {
		t.Errorf("Left behind a checkpoint: %d", l.Left())
	}
	mustSubmit(t, l, data(9))
	if l.Left() != 4096-18 {
		t.Errorf("Left, as a batch waits: %d", l.Left())
	}
}

// P8.3.
func TestSubmit(t *testing.T) {
	d := mustDisk(t, twoSegs)
	l, _ := mustOpen(t, d)
	before := look(d)
	for i := range 64 {
		if l.Waiting() != i {
			t.Errorf("%d wait, want %d", l.Waiting(), i)
		}
		if e := l.Submit(make([]byte, 2040)); e != api.ErrLong {
			t.Errorf("Submit of 2040 bytes: %v", e)
		}
		mustSubmit(t, l, data(i%3))
	}
	for _, x := range []struct {
		size int
		want api.Errno
	}{{0, api.ErrFull}, {2039, api.ErrFull}, {2040, api.ErrLong}, {1 << 20, api.ErrLong}} {
		if e := l.Submit(make([]byte, x.size)); e != x.want || l.Waiting() != 64 {
			t.Errorf("Submit of %d bytes, as 64 wait: %v, want %v; %d wait", x.size, e, x.want, l.Waiting())
		}
	}
	if look(d) != before {
		t.Error("Submit has changed the disk")
	}
	mustCommit(t, l, 64)
	if l.Waiting() != 0 {
		t.Errorf("%d wait behind Commit", l.Waiting())
	}
	mustSubmit(t, l, data(2039))
	mustSubmit(t, l, nil)
	l.Drop()
	if l.Waiting() != 0 {
		t.Errorf("%d wait behind Drop", l.Waiting())
	}
	l.Drop()
	before = look(d)
	mustCommit(t, l, 0)
	if look(d) != before {
		t.Error("Commit of nothing has changed the disk")
	}
	for range 64 {
		mustSubmit(t, l, nil)
	}
	if e := l.Submit(nil); e != api.ErrFull {
		t.Errorf("Submit, as 64 wait: %v", e)
	}
}

// P8.3: what is dropped is never told.
func TestDrop(t *testing.T) {
	d := mustDisk(t, twoSegs)
	l, _ := mustOpen(t, d)
	mustKeep(t, l, 3)
	mustSubmit(t, l, data(4))
	l.Drop()
	mustKeep(t, l, 5)
	wantLog(t, d, 0, 26, Frame{Batch, data(3)}, Frame{Batch, data(5)})
}

// P8.4: as far as there is room, with the rests; the others wait on.
func TestCommitFull(t *testing.T) {
	for _, sizes := range [][]int{
		{2039, 2039}, // exactly
		{2039, 2038, 0},
		{2039, 2039, 0, 5},
		{2039, 2030, 0}, // exactly
		{2039, 2031, 0},
		{2039, 2029, 0, 0},
		{1000, 1040, 990, 2, 0},
		{1000, 1040, 1008, 1, 0},
		{2000, 2000, 2000, 1}, // the last one would fit, but isn't the next one
		{1020, 1020, 1020, 1020},
		{1015, 1015, 1015, 1015, 0}, // exactly, without a rest
		{1015, 1016, 1015, 1015, 0},
		{0, 2039, 2039, 3},
	} {
		d := mustDisk(t, twoSegs)
		l, _ := mustOpen(t, d)
		for _, n := range sizes {
			mustSubmit(t, l, data(n))
		}
		var log []byte
		var list []Frame
		for _, n := range sizes {
			more := behind(0, log, 1, data(n))
			if len(more) > 4096 {
				break
			}
			log, list = more, append(list, Frame{Batch, data(n)})
		}
		want := api.OK
		if len(list) < len(sizes) {
			want = api.ErrFull
		}
		n, e := l.Commit()
		if n != len(list) || e != want || l.Waiting() != len(sizes)-n {
			t.Errorf("%v: Commit: %d %v, %d wait; want %d %v", sizes, n, e, l.Waiting(), len(list), want)
		}
		wantEnds(t, l, 0, uint64(len(log)))
		wantLog(t, d, 0, uint64(len(log)), list...)
	}
}

// P8.4: where there is no room for the next one, nothing is done, not to the disk either, and what waits is kept later.
func TestCommitNoRoom(t *testing.T) {
	d := mustDisk(t, twoSegs)
	l, _ := mustOpen(t, d)
	mustKeep(t, l, 2039, 2000)
	mustSubmit(t, l, data(31))
	mustSubmit(t, l, data(1))
	before, was := look(d), lookLog(l)
	for range 3 {
		if n, e := l.Commit(); n != 0 || e != api.ErrFull {
			t.Errorf("Commit: %d %v", n, e)
		}
	}
	if look(d) != before || lookLog(l) != was {
		t.Error("Commit without room has changed something")
	}
	l.Drop()
	mustCheckpoint(t, l, data(30)) // it fits exactly
	wantEnds(t, l, 2048+2009, 4096)
	mustSubmit(t, l, data(31))
	mustSubmit(t, l, data(1))
	mustCommit(t, l, 2)
	wantLog(t, d, 2048+2009, 4096+50, Frame{Last, data(30)}, Frame{Batch, data(31)}, Frame{Batch, data(1)})
}

// P8.4: the others wait on in their order, and are the next ones.
func TestCommitRest(t *testing.T) {
	d := mustDisk(t, twoSegs)
	l, _ := mustOpen(t, d)
	for i := range 6 {
		mustSubmit(t, l, data(1500+i))
	}
	if n, e := l.Commit(); n != 2 || e != api.ErrFull || l.Waiting() != 4 {
		t.Errorf("Commit: %d %v, %d wait", n, e, l.Waiting())
	}
	if e := l.Checkpoint(nil); e != api.ErrState {
		t.Errorf("Checkpoint, as batches wait: %v", e)
	}
	for range 60 {
		mustSubmit(t, l, nil)
	}
	if e := l.Submit(nil); e != api.ErrFull {
		t.Errorf("Submit: %v", e)
	}
	if n, e := l.Commit(); n != 0 || e != api.ErrFull || l.Waiting() != 64 {
		t.Errorf("Commit: %d %v, %d wait", n, e, l.Waiting())
	}
	wantLog(t, d, 0, 2048+1510, Frame{Batch, data(1500)}, Frame{Batch, data(1501)})
}

// P8.5.
func TestCheckpoint(t *testing.T) {
	for _, start := range []int{-1, 0, 100, 2020, 2030, 2031, 2038, 2039} {
		for _, n := range []int{0, 1, 100, 2038, 2039, 2040, 4077, 4078, 4079, 6117, 8000} {
			d := mustDisk(t, 2+16*6)
			l, _ := mustOpen(t, d)
			if start >= 0 {
				mustKeep(t, l, start)
			}
			_, from := l.Ends()
			log := durable(d, 0, from)
			var want []Frame
			all := data(n)
			for len(all) > 2039 {
				want = append(want, Frame{Check, all[:2039]})
				all = all[2039:]
			}
			want = append(want, Frame{Last, all})
			for _, f := range want {
				log = behind(0, log, f.Kind, f.Data)
			}
			begin := from
			if in := from % 2048; in+9+uint64(len(want[0].Data)) > 2048 {
				begin += 2048 - in
			}
			mustCheckpoint(t, l, data(n))
			end := uint64(len(log))
			wantEnds(t, l, begin, end)
			if got := durable(d, 0, end); !bytes.Equal(got, log) {
				t.Errorf("from %d, %d bytes: the log's bytes", from, n)
			}
			wantLog(t, d, begin, end, want...)
			mustKeep(t, l, 7)
			wantLog(t, d, begin, uint64(len(behind(0, log, 1, data(7)))), append(want, Frame{Batch, data(7)})...)
			mustCheckpoint(t, l, nil)
			if _, list := mustOpen(t, d); tell(list) != tell([]Frame{{Last, nil}}) {
				t.Errorf("from %d, %d bytes, and once more: %s", from, n, tell(list))
			}
		}
	}
}

// P8.5: the errors, each ahead of the next, with nothing changed; and what there is just room for.
func TestCheckpointErrors(t *testing.T) {
	for _, x := range []struct {
		kept []int
		most int // what there is just room for
	}{
		{nil, 4078},
		{[]int{0}, 4078 - 9 - 2030}, // behind a frame of nine bytes the first part doesn't fit
		{[]int{2029}, 2039},         // nor into the last ten bytes of a segment
		{[]int{2039}, 2039},
		{[]int{2039, 0}, 2030},
		{[]int{2039, 2000}, 30},
		{[]int{2039, 2030}, 0},
		{[]int{2039, 2031}, -1},
		{[]int{2039, 2039}, -1},
	} {
		d := mustDisk(t, twoSegs)
		l, _ := mustOpen(t, d)
		mustKeep(t, l, x.kept...)
		before, was := look(d), lookLog(l)
		for _, n := range []int{x.most + 1, x.most + 2, 5000, 1 << 20} {
			if e := l.Checkpoint(make([]byte, n)); e != api.ErrFull {
				t.Errorf("%v: Checkpoint of %d: %v", x.kept, n, e)
			}
		}
		if look(d) != before || lookLog(l) != was {
			t.Errorf("%v: what is refused has changed something", x.kept)
		}
		mustSubmit(t, l, nil)
		before, was = look(d), lookLog(l)
		for _, n := range []int{0, x.most + 1, 1 << 20} {
			if e := l.Checkpoint(make([]byte, n)); e != api.ErrState {
				t.Errorf("%v: Checkpoint of %d, as a batch waits: %v", x.kept, n, e)
			}
		}
		if look(d) != before || lookLog(l) != was {
			t.Errorf("%v: what is refused has changed something", x.kept)
		}
		l.Drop()
		if x.most >= 0 {
			mustCheckpoint(t, l, data(x.most))
			if _, list := mustOpen(t, d); len(list) == 0 || list[len(list)-1].Kind != Last {
				t.Errorf("%v: Checkpoint of %d: %s", x.kept, x.most, tell(list))
			}
		}
	}
}

// P8.5: the segments are used again, round and round, each checkpoint in the place of all ahead of it.
func TestRoundAndRound(t *testing.T) {
	for _, sectors := range []int{twoSegs, twoSegs + 15, threeSegs} {
		d := mustDisk(t, sectors)
		l, _ := mustOpen(t, d)
		r := rand.New(rand.NewSource(int64(sectors)))
		var want []Frame
		for i := range 400 {
			if l.Left() < Cost(600)+Cost(200) {
				b := data(r.Intn(201))
				mustCheckpoint(t, l, b)
				want = []Frame{{Last, b}}
			}
			b := data(r.Intn(601))
			mustSubmit(t, l, b)
			mustCommit(t, l, 1)
			want = append(want, Frame{Batch, b})
			begin, end := l.Ends()
			wantLog(t, d, begin, end, want...)
			if t.Failed() {
				t.Fatalf("step %d", i)
			}
			if r.Intn(5) == 0 {
				l, _ = mustOpen(t, d)
			}
		}
		if _, end := l.Ends(); end < 20*4096 {
			t.Errorf("the end: %d", end)
		}
	}
}

// deed is something that is done to a log, and what it was to be.
type deed struct {
	name string
	do   func(l *Log) api.Errno
}

// deeds: what can be done to a log on which there is not much yet.
func deeds() []deed {
	commit := func(sizes ...int) deed {
		return deed{fmt.Sprint("Commit", sizes), func(l *Log) api.Errno {
			for _, n := range sizes {
				l.Submit(data(n))
			}
			_, e := l.Commit()
			return e
		}}
	}
	check := func(n int) deed {
		return deed{fmt.Sprint("Checkpoint ", n), func(l *Log) api.Errno { return l.Checkpoint(data(n)) }}
	}
	return []deed{commit(5), commit(1, 2, 0), commit(150), commit(200, 100), commit(2039), check(0), check(40), check(300), check(2041)}
}

// logs: disks with logs of several kinds: none yet, short, near a segment's end, gone round, begun by a checkpoint.
func logs(t *testing.T) []*disk.Disk {
	t.Helper()
	var list []*disk.Disk
	for i := range 5 {
		d := mustDisk(t, threeSegs)
		l, _ := mustOpen(t, d)
		switch i {
		case 1:
			mustKeep(t, l, 3, 4)
		case 2:
			mustKeep(t, l, 2000, 20)
		case 3:
			for range 4 {
				mustKeep(t, l, 2039)
				mustCheckpoint(t, l, data(30))
			}
		case 4:
			mustCheckpoint(t, l, data(119))
			mustKeep(t, l, 119)
		}
		list = append(list, d)
	}
	return list
}

// lefts: of a disk, some of those that the power's going may leave of it, up again: of few sectors each that may be whole is whole or not, of many some; one is torn.
func lefts(d *disk.Disk, r *rand.Rand, f func(*disk.Disk)) {
	pending := d.Pending()
	for some := range 1 << min(len(pending), 4) {
		var keep []int
		for i, n := range pending {
			if some>>(i%4)&1 == 1 && (i < 4 || r.Intn(2) == 0) {
				keep = append(keep, n)
			}
		}
		tears := pending
		if len(tears) > 3 {
			tears = []int{pending[0], pending[len(pending)-1], pending[r.Intn(len(pending))]}
		}
		for _, tear := range append(slices.Clone(tears), -1) {
			for _, at := range []int{0, 12, 56, 57, 111, 112, r.Intn(129)} {
				c := d.Clone()
				c.Crash(keep, tear, at)
				c.Up()
				f(c)
			}
		}
	}
}

// tellAll: where a log begins and ends, and its frames.
func tellAll(t *testing.T, d *disk.Disk) string {
	t.Helper()
	l, list := mustOpen(t, d)
	begin, end := l.Ends()
	return fmt.Sprint(begin, " ", end, " ", tell(list))
}

// P8.6: the power goes at each write and flush of what is done, and leaves what it may: the log tells what was there, or what was to be, and goes on from there.
func TestPower(t *testing.T) {
	r := rand.New(rand.NewSource(8))
	for i, d := range logs(t) {
		old := tellAll(t, d)
		for _, x := range deeds() {
			done := d.Clone()
			l, _ := mustOpen(t, done)
			if e := x.do(l); e != api.OK {
				t.Fatalf("log %d, %s: %v", i, x.name, e)
			}
			made := tellAll(t, done)
			done.Crash(nil, -1, 0)
			done.Up()
			if got := tellAll(t, done); got != made {
				t.Errorf("log %d, %s, and the power goes behind it: %s, want %s", i, x.name, got, made)
			}
			for fuse := range done.Writes() + done.Flushes() {
				c := d.Clone()
				l, _ := mustOpen(t, c)
				c.Fuse(int(fuse))
				if e := x.do(l); e != api.ErrDown {
					t.Fatalf("log %d, %s, fuse %d: %v", i, x.name, fuse, e)
				}
				seen := map[string]bool{}
				lefts(c, r, func(c *disk.Disk) {
					got := tellAll(t, c)
					seen[got] = true
					if got != old && got != made {
						t.Errorf("log %d, %s, fuse %d: %s, want %s or %s", i, x.name, fuse, got, old, made)
					}
					l, list := mustOpen(t, c)
					begin, _ := l.Ends()
					mustKeep(t, l, 60, 70)
					_, end := l.Ends()
					wantLog(t, c, begin, end, append(list, Frame{Batch, data(60)}, Frame{Batch, data(70)})...)
				})
				// Ahead of the mark nothing of it is told; of the mark itself all that is durable counts.
				if last := fuse == done.Writes()+done.Flushes()-1; seen[made] != last || !seen[old] {
					t.Errorf("log %d, %s, fuse %d: seen: %v", i, x.name, fuse, seen)
				}
				if t.Failed() {
					return
				}
			}
		}
	}
}

// P8.6 and P2: behind ErrDown all is as it was, and stays so, until the log is opened anew.
func TestDown(t *testing.T) {
	for i, d := range logs(t) {
		for fuse := range 5 {
			for _, commit := range []bool{true, false} {
				c := d.Clone()
				l, _ := mustOpen(t, c)
				if commit {
					mustSubmit(t, l, data(300))
					mustSubmit(t, l, data(9))
				}
				was := lookLog(l)
				c.Fuse(fuse)
				if commit {
					if n, e := l.Commit(); n != 0 || e != api.ErrDown {
						t.Fatalf("log %d, fuse %d: Commit: %d %v", i, fuse, n, e)
					}
				} else if e := l.Checkpoint(data(300)); e != api.ErrDown {
					t.Fatalf("log %d, fuse %d: Checkpoint: %v", i, fuse, e)
				}
				wantDead(t, l, was)
				c.Up()
				before := look(c)
				wantDead(t, l, was)
				l.Drop()
				if l.Waiting() != 0 {
					t.Errorf("%d wait behind Drop", l.Waiting())
				}
				wantDead(t, l, lookLog(l))
				if look(c) != before {
					t.Error("a log that must be opened anew has changed the disk")
				}
			}
		}
	}
}

// wantDead: a log answers ErrDown, whatever else there is to say, and has changed nothing.
func wantDead(t *testing.T, l *Log, was string) {
	t.Helper()
	for _, n := range []int{0, 2040} {
		if e := l.Submit(make([]byte, n)); e != api.ErrDown {
			t.Errorf("Submit: %v", e)
		}
	}
	if n, e := l.Commit(); n != 0 || e != api.ErrDown {
		t.Errorf("Commit: %d %v", n, e)
	}
	for _, n := range []int{0, 1 << 20} {
		if e := l.Checkpoint(make([]byte, n)); e != api.ErrDown {
			t.Errorf("Checkpoint: %v", e)
		}
	}
	if now := lookLog(l); now != was {
		t.Errorf("the log: %s, it was %s", now, was)
	}
}

// P8.3, P8.4 and P8.5: what needs no disk goes on without power; what needs it is the first to tell.
func TestDownUntold(t *testing.T) {
	d := mustDisk(t, twoSegs)
	l, _ := mustOpen(t, d)
	mustKeep(t, l, 2039, 2039)
	d.Crash(nil, -1, 0)
	mustCommit(t, l, 0)
	if e := l.Checkpoint(nil); e != api.ErrFull {
		t.Errorf("Checkpoint without room: %v", e)
	}
	mustSubmit(t, l, data(1))
	if e := l.Checkpoint(nil); e != api.ErrState {
		t.Errorf("Checkpoint, as a batch waits: %v", e)
	}
	if n, e := l.Commit(); n != 0 || e != api.ErrFull {
		t.Errorf("Commit without room: %d %v", n, e)
	}
	d = mustDisk(t, twoSegs)
	l, _ = mustOpen(t, d)
	mustSubmit(t, l, data(1))
	d.Crash(nil, -1, 0)
	was := lookLog(l)
	if n, e := l.Commit(); n != 0 || e != api.ErrDown {
		t.Errorf("Commit: %d %v", n, e)
	}
	wantDead(t, l, was)
}

// P8.4 and P8.5: if there can be no mark any more, nothing is kept, what waits waits on, and the log is as it was.
func TestNoMark(t *testing.T) {
	d := mustDisk(t, twoSegs)
	l, _ := mustOpen(t, d)
	mustKeep(t, l, 3)
	s, _ := d.Read(0)
	binary.LittleEndian.PutUint64(s, math.MaxUint64)
	d.Write(0, s)
	mustSubmit(t, l, data(4))
	was := lookLog(l)
	for range 2 {
		if n, e := l.Commit(); n != 0 || e != api.ErrFull || lookLog(l) != was {
			t.Errorf("Commit: %d %v; %s, it was %s", n, e, lookLog(l), was)
		}
	}
	l.Drop()
	was = lookLog(l)
	if e := l.Checkpoint(data(5)); e != api.ErrFull || lookLog(l) != was {
		t.Errorf("Checkpoint: %v; %s, it was %s", e, lookLog(l), was)
	}
	wantLog(t, d, 0, 12, Frame{Batch, data(3)})
	d.Write(0, make([]byte, 128))
	mustKeep(t, l, 6)
	wantLog(t, d, 0, 27, Frame{Batch, data(3)}, Frame{Batch, data(6)})
}

// P2: what is handed in is neither changed nor kept, and what is answered is new memory, its spare room too.
func TestMemory(t *testing.T) {
	d := mustDisk(t, twoSegs)
	l, _ := mustOpen(t, d)
	room := data(300)
	mustSubmit(t, l, room[:100])
	if !bytes.Equal(room, data(300)) {
		t.Error("Submit changed its argument")
	}
	clear(room)
	mustSubmit(t, l, room[100:200])
	copy(room, data(300))
	mustCommit(t, l, 2)
	_, end := l.Ends()
	want := []Frame{{Batch, data(300)[:100]}, {Batch, make([]byte, 100)}}
	wantLog(t, d, 0, end, want...)
	_, list := mustOpen(t, d)
	_, other := mustOpen(t, d)
	spill(list[0].Data)
	if tell(list[1:]) != tell(want[1:]) {
		t.Error("two frames share memory")
	}
	spill(list[1].Data)
	if tell(other) != tell(want) {
		t.Error("two answers share memory")
	}
	wantLog(t, d, 0, end, want...)
	room = data(5000)
	d = mustDisk(t, 2+16*5)
	l, _ = mustOpen(t, d)
	mustCheckpoint(t, l, room[:4100])
	if !bytes.Equal(room, data(5000)) {
		t.Error("Checkpoint changed its argument")
	}
}

// spill: every byte is another one, those of the spare room too.
func spill(b []byte) {
	b = b[:cap(b)]
	for i := range b {
		b[i] ^= 0x55
	}
}

// P8.3 and P2: logs on the same disk, and on others, have batches of their own.
func TestLogsApart(t *testing.T) {
	d := mustDisk(t, twoSegs)
	a, _ := mustOpen(t, d)
	b, _ := mustOpen(t, d)
	mustSubmit(t, a, data(1))
	if b.Waiting() != 0 || a.Waiting() != 1 {
		t.Errorf("%d and %d wait", a.Waiting(), b.Waiting())
	}
	mustCommit(t, b, 0)
	mustCommit(t, a, 1)
	wantLog(t, d, 0, 10, Frame{Batch, data(1)})
}

// kept is a log as the document's words have it, as long as the power is there.
type kept struct {
	begin   uint64
	log     []byte // from begin on
	list    []Frame
	waiting [][]byte
}

// room: how many bytes more there may be in two segments.
func (m *kept) room() int { return 4096 - int(m.begin%128) - len(m.log) }

// commit: how many batches are kept, and what the log is then.
func (m kept) commit() (int, kept) {
	n := 0
	start := len(m.log)
	room := m.room()
	for n < len(m.waiting) {
		more := behind(m.begin, slices.Clone(m.log), Batch, m.waiting[n])
		if len(more)-start > room {
			break
		}
		m.log, m.list = more, append(slices.Clone(m.list), Frame{Batch, m.waiting[n]})
		n++
	}
	m.waiting = m.waiting[n:]
	return n, m
}

// checkpoint: is there room, and what the log is then.
func (m kept) checkpoint(b []byte) (bool, kept) {
	log := slices.Clone(m.log)
	var list []Frame
	for kind := Check; kind == Check; {
		n := min(len(b), 2039)
		if n == len(b) {
			kind = Last
		}
		log = behind(m.begin, log, kind, b[:n])
		list = append(list, Frame{kind, b[:n]})
		b = b[n:]
	}
	if len(log)-len(m.log) > m.room() {
		return false, m
	}
	end := m.begin + uint64(len(m.log))
	begin := end
	if in := end % 2048; in+9+uint64(len(list[0].Data)) > 2048 {
		begin += 2048 - in
	}
	return true, kept{begin: begin, log: log[begin-m.begin:], list: list}
}

func (m *kept) tell() string {
	return fmt.Sprint(m.begin, " ", m.begin+uint64(len(m.log)), " ", tell(m.list))
}

// P1 and P8.1 to P8.6: steps by chance, against the document's words, with the power going now and then.
func TestSteps(t *testing.T) {
	r := rand.New(rand.NewSource(9))
	for range 40 {
		d := mustDisk(t, twoSegs)
		l, _ := mustOpen(t, d)
		var m kept
		for i := range 120 {
			fuse := r.Intn(30)
			if fuse < 8 {
				d.Fuse(fuse)
			}
			made, e := step(t, r, l, &m)
			if e == api.ErrDown {
				keep := d.Pending()
				r.Shuffle(len(keep), func(i, j int) { keep[i], keep[j] = keep[j], keep[i] })
				d.Crash(keep[:r.Intn(len(keep)+1)], r.Intn(twoSegs), r.Intn(140)-5)
				d.Up()
				switch got := tellAll(t, d); got {
				case made.tell():
					m = made
				case m.tell():
				default:
					t.Fatalf("step %d: %s, want %s or %s", i, got, m.tell(), made.tell())
				}
				m.waiting = nil
				l, _ = mustOpen(t, d)
			} else {
				m = made
			}
			d.Fuse(-1)
			begin, end := l.Ends()
			if got, want := fmt.Sprint(begin, end, l.Left(), l.Waiting()), fmt.Sprint(m.begin, m.begin+uint64(len(m.log)), max(0, m.room()), len(m.waiting)); got != want {
				t.Fatalf("step %d: %s, want %s", i, got, want)
			}
			if got := tellAll(t, d); got != m.tell() {
				t.Fatalf("step %d: %s, want %s", i, got, m.tell())
			}
		}
	}
}

// step: something is done to a log; what it is to be then, and the error.
func step(t *testing.T, r *rand.Rand, l *Log, m *kept) (kept, api.Errno) {
	t.Helper()
	made := *m
	switch r.Intn(8) {
	case 0, 1, 2:
		b := data(r.Intn(300))
		mustSubmit(t, l, b)
		made.waiting = append(slices.Clone(m.waiting), b)
		return made, api.OK
	case 3, 4, 5:
		n, made := m.commit()
		want := api.OK
		if len(made.waiting) > 0 {
			want = api.ErrFull
		}
		got, e := l.Commit()
		if e != api.ErrDown && (got != n || e != want) || e == api.ErrDown && got != 0 {
			t.Fatalf("Commit: %d %v, want %d %v", got, e, n, want)
		}
		return made, e
	case 6:
		if len(m.waiting) > 3 || r.Intn(3) == 0 {
			l.Drop()
			made.waiting = nil
		}
		return made, api.OK
	}
	b := data(r.Intn(2400))
	ok, made := m.checkpoint(b)
	want := api.OK
	if !ok {
		want = api.ErrFull
	}
	if len(m.waiting) > 0 {
		made, want = *m, api.ErrState
	}
	e := l.Checkpoint(b)
	if e != want && e != api.ErrDown {
		t.Fatalf("Checkpoint of %d: %v, want %v", len(b), e, want)
	}
	return made, e
}
