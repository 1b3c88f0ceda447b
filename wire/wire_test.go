package wire

import (
	"bytes"
	"math"
	"math/big"
	"math/rand"
	"strings"
	"testing"

	"foliot/api"
)

// wrote: the bytes that f writes.
func wrote(f func(w *Writer)) string {
	var w Writer
	f(&w)
	return string(w.Bytes())
}

// P2.1.
func TestWriteByte(t *testing.T) {
	var w Writer
	w.Byte()
	if w.Len() != 0 {
		t.Error("no byte was written")
	}
	w.Byte(0)
	w.Byte(255, 7, 0)
	if string(w.Bytes()) != "\x00\xff\x07\x00" {
		t.Errorf("written: %x", w.Bytes())
	}
}

// P2.1.
func TestWriteNum(t *testing.T) {
	for _, x := range []struct {
		n    uint64
		want string
	}{
		{0, "\x00"},
		{1, "\x01"},
		{127, "\x7f"},
		{128, "\x80\x01"},
		{300, "\xac\x02"},
		{1<<14 - 1, "\xff\x7f"},
		{1 << 14, "\x80\x80\x01"},
		{1<<63 - 1, "\xff\xff\xff\xff\xff\xff\xff\xff\x7f"},
		{1 << 63, "\x80\x80\x80\x80\x80\x80\x80\x80\x80\x01"},
		{math.MaxUint64, "\xff\xff\xff\xff\xff\xff\xff\xff\xff\x01"},
	} {
		if got := wrote(func(w *Writer) { w.Num(x.n) }); got != x.want {
			t.Errorf("Num(%d): %x, want %x", x.n, got, x.want)
		}
	}
	if got := wrote(func(w *Writer) { w.Num(5, 128, 0); w.Num() }); got != "\x05\x80\x01\x00" {
		t.Errorf("Num of three: %x", got)
	}
}

// foldBig: what Num is written of an Int, as the document's words have it.
func foldBig(n int64) uint64 {
	x := big.NewInt(n)
	two, one := big.NewInt(2), big.NewInt(1)
	if n >= 0 {
		return x.Mul(x, two).Uint64()
	}
	x.Neg(x).Sub(x, one).Mul(x, two).Add(x, one)
	return x.Uint64()
}

// ints is numbers about the ends of what bytes can hold.
func ints() []int64 {
	list := []int64{0, math.MaxInt64, math.MinInt64, math.MinInt64 + 1}
	for i := range 63 {
		n := int64(1) << i
		list = append(list, n-1, n, n+1, -n-1, -n, 1-n)
	}
	return list
}

// P2.1.
func TestWriteInt(t *testing.T) {
	for n, want := range map[int64]string{0: "\x00", -1: "\x01", 1: "\x02", -2: "\x03", 63: "\x7e", -64: "\x7f", 64: "\x80\x01"} {
		if got := wrote(func(w *Writer) { w.Int(n) }); got != want {
			t.Errorf("Int(%d): %x, want %x", n, got, want)
		}
	}
	for _, n := range ints() {
		got := wrote(func(w *Writer) { w.Int(n) })
		if want := wrote(func(w *Writer) { w.Num(foldBig(n)) }); got != want {
			t.Errorf("Int(%d): %x, want %x", n, got, want)
		}
	}
	if got := wrote(func(w *Writer) { w.Int(1, -1); w.Int() }); got != "\x02\x01" {
		t.Errorf("Int of two: %x", got)
	}
}

// P2.2.
func TestWriteFixed(t *testing.T) {
	for n, want := range map[uint32]string{0: "\x00\x00\x00\x00", 1: "\x01\x00\x00\x00", 0x12345678: "\x78\x56\x34\x12", math.MaxUint32: "\xff\xff\xff\xff"} {
		if got := wrote(func(w *Writer) { w.Fixed(n) }); got != want {
			t.Errorf("Fixed(%x): %x, want %x", n, got, want)
		}
	}
}

// P2.2: also of a text that is no text, or longer than one that is read may be.
func TestWriteText(t *testing.T) {
	for s, want := range map[string]string{"": "\x00", "ab": "\x02ab", "\xff\x00": "\x02\xff\x00", "é": "\x02\xc3\xa9"} {
		if got := wrote(func(w *Writer) { w.Text(s) }); got != want {
			t.Errorf("Text(%q): %x, want %x", s, got, want)
		}
	}
	long := strings.Repeat("x", MaxText+1)
	if got := wrote(func(w *Writer) { w.Text(long) }); got != "\x81\x20"+long {
		t.Errorf("a long Text: %d bytes", len(got))
	}
}

// P2.2.
func TestWriteSum(t *testing.T) {
	var s api.Sum
	for i := range s {
		s[i] = byte(200 + i)
	}
	if got := wrote(func(w *Writer) { w.Byte(1); w.Sum(s); w.Byte(2) }); got != "\x01"+string(s[:])+"\x02" {
		t.Errorf("Sum: %x", got)
	}
}

// P2.2, and the document's example.
func TestWritten(t *testing.T) {
	var w Writer
	if w.Len() != 0 || len(w.Bytes()) != 0 {
		t.Error("the zero Writer has bytes")
	}
	w.Num(300)
	w.Int(-1)
	w.Text("ab")
	if string(w.Bytes()) != "\xac\x02\x01\x02\x61\x62" || w.Len() != 6 {
		t.Errorf("written: %x", w.Bytes())
	}
	var all Writer
	want := 0
	for i := range 300 {
		all.Fixed(uint32(i))
		all.Text("abc")
		if want += 8; all.Len() != want || len(all.Bytes()) != want {
			t.Fatalf("Len is %d, and there are %d bytes: want %d", all.Len(), len(all.Bytes()), want)
		}
	}
}

// P2: the Writer's answers are new memory, their spare room too, and what it is given isn't kept.
func TestWriterMemory(t *testing.T) {
	list := []byte{1, 2, 3, 4}
	var w Writer
	w.Byte(list[:3]...)
	list[0] = 9
	if list[3] != 4 || string(w.Bytes()) != "\x01\x02\x03" {
		t.Errorf("what was handed in is kept, or changed: %x, %x", list, w.Bytes())
	}
	a := w.Bytes()
	clear(a)
	a = append(a, 7, 7, 7)
	w.Byte(5)
	b := w.Bytes()
	if string(b) != "\x01\x02\x03\x05" || string(a) != "\x00\x00\x00\x07\x07\x07" {
		t.Errorf("an answer shares memory: %x, %x", a, b)
	}
	nums, ints := []uint64{300, 1}, []int64{-5, 1}
	w.Num(nums[:1]...)
	w.Int(ints[:1]...)
	if nums[0] != 300 || nums[1] != 1 || ints[0] != -5 || ints[1] != 1 {
		t.Error("what was handed in is changed")
	}
}

// P2.3.
func TestReadByte(t *testing.T) {
	r := Read([]byte{7, 0, 255})
	if r.Byte() != 7 || r.Byte() != 0 || r.Byte() != 255 || r.Err() != api.OK || r.Left() != 0 || r.At() != 3 {
		t.Error("Byte")
	}
	if r.Byte() != 0 || r.Err() != api.ErrShort {
		t.Error("Byte at the end")
	}
}

// numAsTold: what Num answers of bytes, as the document's words have it, and how many bytes it has.
func numAsTold(b []byte, most uint64) (uint64, int, api.Errno) {
	n := new(big.Int)
	for i, x := range b {
		if x == 0 && i > 0 || i == 9 && x > 1 {
			return 0, 0, api.ErrForm
		}
		digit := new(big.Int).SetUint64(uint64(x & 127))
		n.Add(n, digit.Lsh(digit, uint(7*i)))
		if x < 128 {
			if n.Cmp(new(big.Int).SetUint64(most)) > 0 {
				return 0, 0, api.ErrLong
			}
			return n.Uint64(), i + 1, api.OK
		}
	}
	return 0, 0, api.ErrShort
}

// numTexts: what may stand where a number should: up to eleven bytes, most of them about the edges.
func numTexts() [][]byte {
	edges := []byte{0, 1, 2, 3, 0x7f, 0x80, 0x81, 0x82, 0xfe, 0xff}
	list := [][]byte{nil}
	for _, fill := range []byte{0x80, 0x81, 0xff} {
		for n := range 11 {
			head := bytes.Repeat([]byte{fill}, n)
			list = append(list, head)
			for _, x := range edges {
				list = append(list, append(bytes.Clone(head), x))
				for _, y := range edges {
					list = append(list, append(bytes.Clone(head), x, y))
				}
			}
		}
	}
	return list
}

// P2.3: each form of a number, right or wrong, and each bound.
func TestReadNum(t *testing.T) {
	for _, b := range numTexts() {
		for _, most := range []uint64{0, 1, 127, 128, 16384, 1<<63 - 1, 1 << 63, math.MaxUint64 - 1, math.MaxUint64} {
			want, at, err := numAsTold(b, most)
			r := Read(b)
			if got := r.Num(most); got != want || r.Err() != err {
				t.Errorf("Num(%d) of %x: %d, %v; want %d, %v", most, b, got, r.Err(), want, err)
			}
			if err == api.OK && (r.At() != at || r.Left() != len(b)-at) {
				t.Errorf("Num of %x read %d bytes, %d are left; want %d", b, r.At(), r.Left(), at)
			}
		}
	}
}

// P2.3: what was written is read, each number in one form alone.
func TestReadInt(t *testing.T) {
	for _, n := range ints() {
		b := []byte(wrote(func(w *Writer) { w.Int(n) }))
		r := Read(b)
		if got := r.Int(); got != n || r.End() != api.OK || r.At() != len(b) {
			t.Errorf("Int of %x: %d, %v; want %d", b, got, r.End(), n)
		}
	}
	for s, want := range map[string]api.Errno{"": api.ErrShort, "\x80": api.ErrShort, "\x81\x00": api.ErrForm, "\xff\xff\xff\xff\xff\xff\xff\xff\xff\x02": api.ErrForm, "\xff\xff\xff\xff\xff\xff\xff\xff\xff\x81": api.ErrForm} {
		r := Read([]byte(s))
		if got := r.Int(); got != 0 || r.Err() != want {
			t.Errorf("Int of %x: %d, %v; want %v", s, got, r.Err(), want)
		}
	}
}

// P2.3.
func TestReadCount(t *testing.T) {
	for _, x := range []struct {
		s    string
		want int
		err  api.Errno
	}{
		{"\x00", 0, api.OK},
		{"\x07", 7, api.OK},
		{"\x80\x20", 4096, api.OK},
		{"\x81\x20", 0, api.ErrLong},
		{"\xff\xff\xff\xff\xff\xff\xff\xff\xff\x01", 0, api.ErrLong},
		{"\x80\x00", 0, api.ErrForm},
		{"", 0, api.ErrShort},
	} {
		r := Read([]byte(x.s))
		if got := r.Count(); got != x.want || r.Err() != x.err {
			t.Errorf("Count of %x: %d, %v; want %d, %v", x.s, got, r.Err(), x.want, x.err)
		}
	}
}

// P2.3.
func TestReadFixed(t *testing.T) {
	r := Read([]byte("\x78\x56\x34\x12\xff\xff\xff\xff\x01\x02\x03"))
	if r.Fixed() != 0x12345678 || r.Fixed() != math.MaxUint32 || r.Err() != api.OK || r.At() != 8 || r.Left() != 3 {
		t.Error("Fixed")
	}
	if r.Fixed() != 0 || r.Err() != api.ErrShort || r.Left() != 0 {
		t.Error("Fixed of three bytes")
	}
}

// P2.3.
func TestReadText(t *testing.T) {
	full := strings.Repeat("y", MaxText)
	for _, x := range []struct {
		s, want string
		err     api.Errno
	}{
		{"\x00", "", api.OK},
		{"\x02ab", "ab", api.OK},
		{"\x02\xff\x00", "\xff\x00", api.OK},
		{"\x80\x20" + full, full, api.OK},
		{"\x80\x20" + full[1:], "", api.ErrShort},
		{"\x81\x20" + full + "y", "", api.ErrLong},
		{"\x81\x20", "", api.ErrLong},
		{"\x03ab", "", api.ErrShort},
		{"\x01", "", api.ErrShort},
		{"", "", api.ErrShort},
		{"\x80\x00", "", api.ErrForm},
	} {
		r := Read([]byte(x.s))
		if got := r.Text(); got != x.want || r.End() != x.err {
			t.Errorf("Text of %.9x: %.9q, %v; want %.9q, %v", x.s, got, r.End(), x.want, x.err)
		}
	}
}

// P2.3.
func TestReadSum(t *testing.T) {
	var s api.Sum
	for i := range s {
		s[i] = byte(i + 1)
	}
	r := Read(append(s[:len(s):len(s)], 9))
	if r.Sum() != s || r.Err() != api.OK || r.At() != 32 || r.Byte() != 9 {
		t.Error("Sum")
	}
	r = Read(s[:31])
	if r.Sum() != (api.Sum{}) || r.Err() != api.ErrShort {
		t.Error("Sum of 31 bytes")
	}
}

// readers is each call that reads, and whether it answered anything but zero.
func readers() map[string]func(r *Reader) bool {
	return map[string]func(r *Reader) bool{
		"Byte":  func(r *Reader) bool { return r.Byte() != 0 },
		"Num":   func(r *Reader) bool { return r.Num(math.MaxUint64) != 0 },
		"Int":   func(r *Reader) bool { return r.Int() != 0 },
		"Count": func(r *Reader) bool { return r.Count() != 0 },
		"Fixed": func(r *Reader) bool { return r.Fixed() != 0 },
		"Text":  func(r *Reader) bool { return r.Text() != "" },
		"Sum":   func(r *Reader) bool { return r.Sum() != api.Sum{} },
	}
}

// P2.4: behind an error nothing is read, and it stays.
func TestBehindError(t *testing.T) {
	ones := bytes.Repeat([]byte{1}, 40)
	for name, read := range readers() {
		r := Read(ones)
		if !read(r) || r.Err() != api.OK {
			t.Errorf("%s of bytes 1: %v", name, r.Err())
		}
		r = Read(ones)
		r.Num(0)
		if r.Err() != api.ErrLong || r.Left() != 0 || r.End() != api.ErrLong {
			t.Fatalf("Num(0) of a byte 1: %v", r.Err())
		}
		if read(r) || r.Err() != api.ErrLong || r.Left() != 0 || r.End() != api.ErrLong {
			t.Errorf("%s behind an error: %v", name, r.Err())
		}
		empty := Read(nil)
		if read(empty) || empty.Err() != api.ErrShort || empty.End() != api.ErrShort {
			t.Errorf("%s of nothing: %v", name, empty.Err())
		}
	}
}

// P2.4.
func TestFail(t *testing.T) {
	r := Read([]byte{1, 2})
	r.Fail(api.OK)
	if r.Err() != api.OK || r.Left() != 2 || r.Byte() != 1 {
		t.Error("Fail(OK) is no error")
	}
	r.Fail(api.ErrKind)
	r.Fail(api.ErrDeep)
	r.Fail(api.OK)
	if r.Err() != api.ErrKind || r.End() != api.ErrKind || r.Left() != 0 || r.Byte() != 0 {
		t.Errorf("Fail: %v", r.Err())
	}
	r = Read(nil)
	r.Fail(-7)
	if r.Err() != -7 || r.End() != -7 || r.Byte() != 0 {
		t.Errorf("Fail of an error without a name: %v", r.Err())
	}
}

// P2.4: End tells of bytes that are left, and is no error of the Reader: more may be read.
func TestEnd(t *testing.T) {
	r := Read([]byte{1, 2})
	if r.End() != api.ErrForm || r.Err() != api.OK || r.Left() != 2 || r.At() != 0 {
		t.Error("End ahead of two bytes")
	}
	if r.Byte() != 1 || r.End() != api.ErrForm || r.Byte() != 2 || r.End() != api.OK {
		t.Error("End behind one byte, and two")
	}
	if Read(nil).End() != api.OK {
		t.Error("End of nothing")
	}
}

// P2: the Reader neither changes nor keeps the bytes that it is given.
func TestReaderMemory(t *testing.T) {
	b := []byte("\x05\x02ab\xff\xff")
	was := bytes.Clone(b)
	r := Read(b[:4])
	r.Byte()
	text := Read(b[1:4]).Text()
	if !bytes.Equal(b, was) {
		t.Errorf("what was handed in is changed: %x", b)
	}
	clear(b)
	if r.Text() != "ab" || text != "ab" {
		t.Error("what was handed in is kept")
	}
}

// P2.1 to P2.4, P1: what was written in any order is read so, and any bytes are read to an end.
func TestRoundTrip(t *testing.T) {
	rnd := rand.New(rand.NewSource(4))
	for range 2000 {
		n, i, f := rnd.Uint64()>>rnd.Intn(64), int64(rnd.Uint64())>>rnd.Intn(64), rnd.Uint32()
		s := strings.Repeat("z", rnd.Intn(200))
		var w Writer
		w.Text(s)
		w.Num(n)
		w.Fixed(f)
		w.Int(i)
		b := w.Bytes()
		r := Read(b)
		if r.Text() != s || r.Num(n) != n || r.Fixed() != f || r.Int() != i || r.End() != api.OK {
			t.Fatalf("%q, %d, %d, %d: %v", s, n, f, i, r.End())
		}
		short := Read(b[:rnd.Intn(len(b))])
		short.Text()
		short.Num(n)
		short.Fixed()
		short.Int()
		if short.End() != api.ErrShort {
			t.Fatalf("a part of %x: %v", b, short.End())
		}
	}
}

// P1, P2: whatever the bytes and the order of the calls, each ends, and the same calls answer the same.
func TestAnyBytes(t *testing.T) {
	names := []string{"Byte", "Num", "Int", "Count", "Fixed", "Text", "Sum"}
	calls := readers()
	for seed := range 3000 {
		rnd := rand.New(rand.NewSource(int64(seed)))
		b := make([]byte, rnd.Intn(80))
		rnd.Read(b)
		one, two := Read(b), Read(b)
		for range 12 {
			call := calls[names[rnd.Intn(len(names))]]
			if call(one) != call(two) || one.Err() != two.Err() || one.Left() != two.Left() || one.End() != two.End() {
				t.Fatalf("two Readers of %x differ", b)
			}
			if one.Err() == api.OK && one.At()+one.Left() != len(b) {
				t.Fatalf("%d read and %d left of %d bytes", one.At(), one.Left(), len(b))
			}
		}
	}
}
